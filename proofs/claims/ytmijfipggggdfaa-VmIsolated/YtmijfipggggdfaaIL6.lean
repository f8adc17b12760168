/- The walk of the law that states handed out are apart from the machine. No condition. -/
import Derived.Test.YtmijfipggggdfaaILT
import Derived.Test.YtmijfipggggdfaaMA
namespace Go.Proofs.Ytmijfipggggdfaa
open Go.RowKit

def Emp (v : Value) : Prop := ∃ A c, v = .slice A 0 c
/-- A row of the call's own, or an empty one. -/
def RowE (w : World) (B : Nat) (v : Value) : Prop := ∃ A m c, v = .slice A m c ∧ m ≤ 1000000 ∧ (m = 0 ∨ ∃ ys : List Bool, ys.length = m ∧ Ow w B v ys)
def RowsE (w : World) (B : Nat) (L : List Value) : Prop := (∀ v ∈ L, RowE w B v) ∧ (∀ u ∈ L, ∀ v ∈ L, u.ownBlock = v.ownBlock → Emp u ∨ Emp v ∨ u = v)
theorem RowE.nx {w w' : World} {B : Nat} {v : Value} (h : RowE w B v) (k : Nx w w') : RowE w' B v := by
  obtain ⟨A, m, c, e, hm, ho⟩ := h
  refine ⟨A, m, c, e, hm, ?_⟩
  rcases ho with h0 | ⟨ys, hl, ho⟩
  · exact .inl h0
  · exact .inr ⟨ys, hl, Ow.nx ho k⟩
theorem RowsE.nx {w w' : World} {B : Nat} {L : List Value} (h : RowsE w B L) (k : Nx w w') : RowsE w' B L := ⟨fun v hv => (h.1 v hv).nx k, h.2⟩
theorem RowsE.step {w w' : World} {B : Nat} {L : List Value} (h : RowsE w B L) {v : Value} (hv : v ∈ L) (k : w.grownBy w' v.ownBlock) (hr : RowE w' B v) (hne : ¬ Emp v) : RowsE w' B L := by
  refine ⟨fun u hu => ?_, h.2⟩
  obtain ⟨A, m, c, e1, hm, ho⟩ := h.1 u hu
  refine ⟨A, m, c, e1, hm, ?_⟩
  rcases ho with h0 | ⟨ys, hl, ho⟩
  · exact .inl h0
  by_cases e : u.ownBlock = v.ownBlock
  · rcases h.2 u hu v hv e with hn | hn | rfl
    · obtain ⟨A', c', e2⟩ := hn
      rw [e1] at e2
      simp only [Value.slice.injEq] at e2
      exact .inl e2.2.1
    · exact absurd hn hne
    · obtain ⟨A', m', c', e2, _, ho'⟩ := hr
      rw [e1] at e2
      simp only [Value.slice.injEq] at e2
      obtain ⟨rfl, rfl, rfl⟩ := e2
      exact ho'
  · exact .inr ⟨ys, hl, World.ownsRow.kept ho k (Or.inr e)⟩
theorem RowsE.step2 {w w' : World} {B : Nat} {L : List Value} (h : RowsE w B L) {A : Option Addr} {m c : Nat} (hv : (.slice A m c : Value) ∈ L) (k : w.grownBy w' (if m = 0 then none else (Value.slice A m c).ownBlock)) (hr : RowE w' B (.slice A m c)) : RowsE w' B L := by
  by_cases h0 : m = 0
  · rw [if_pos h0] at k
    refine ⟨fun u hu => ?_, h.2⟩
    obtain ⟨A', m', c', e1, hm, ho⟩ := h.1 u hu
    refine ⟨A', m', c', e1, hm, ?_⟩
    rcases ho with h0 | ⟨ys, hl, ho⟩
    · exact .inl h0
    · refine .inr ⟨ys, hl, World.ownsRow.kept ho k ?_⟩
      by_cases e : u.ownBlock = none
      · exact .inl e
      · exact .inr e
  · rw [if_neg h0] at k
    exact h.step hv k hr (fun ⟨A2, c2, e⟩ => by simp only [Value.slice.injEq] at e; exact h0 e.2.1)
theorem RowE.flip {w : World} {B : Nat} {A : Option Addr} {m c : Nat} (h : RowE w B (.slice A m c)) (hp : 0 < m) : m ≤ 1000000 ∧ ∃ g ys, A = some ⟨g, 0, none⟩ ∧ ys.length = m ∧ OwB w B g c ys := by
  obtain ⟨A', m', c', e, hm, ho⟩ := h
  simp only [Value.slice.injEq] at e
  obtain ⟨rfl, rfl, rfl⟩ := e
  rcases ho with h0 | ⟨ys, hl, ho⟩
  · omega
  · obtain ⟨g, c2, e, og⟩ := owB_form ho (by omega)
    simp only [Value.slice.injEq] at e
    obtain ⟨rfl, _, rfl⟩ := e
    exact ⟨hm, g, ys, rfl, hl, og⟩
theorem rowE_of {w : World} {B g c m : Nat} {x : List Bool} (h : OwB w B g c x) (hl : x.length = m) (hm : m ≤ 1000000) : RowE w B (.slice (some ⟨g, 0, none⟩) m c) := by
  subst hl
  exact ⟨_, _, _, rfl, hm, .inr ⟨x, rfl, h⟩⟩
theorem rowE_ow {w : World} {B : Nat} {v : Value} {x : List Bool} (h : Ow w B v x) (hm : x.length ≤ 1000000) : RowE w B v := by
  obtain ⟨A, c, rfl, _⟩ := h.im
  exact ⟨A, _, c, rfl, hm, .inr ⟨x, rfl, h⟩⟩
theorem emp_ow {w : World} {B : Nat} {v : Value} (h : Ow w B v []) : Emp v := by
  obtain ⟨A, c, rfl, _⟩ := h.im
  exact ⟨A, c, rfl⟩
theorem rowsE_od {w : World} {B : Nat} {v1 v2 v3 : Value} {x1 x2 x3 : List Bool} (h1 : Ow w B v1 x1) (h2 : Ow w B v2 x2) (h3 : Ow w B v3 x3) (a12 : Ap v1 v2 x1 x2) (a13 : Ap v1 v3 x1 x3) (a23 : Ap v2 v3 x2 x3)
    (l1 : x1.length ≤ 1000000) (l2 : x2.length ≤ 1000000) (l3 : x3.length ≤ 1000000) : RowsE w B [v1, v2, v3] := by
  have ap : ∀ (u v : Value) (x y : List Bool), Ow w B u x → Ow w B v y → Ap u v x y → u.ownBlock = v.ownBlock → Emp u ∨ Emp v ∨ u = v := fun u v x y hu hv ha e => by
    by_cases hx : x = []
    · subst hx; exact .inl (emp_ow hu)
    · by_cases hy : y = []
      · subst hy; exact .inr (.inl (emp_ow hv))
      · exact absurd e (ha hx hy)
  have sw : ∀ u v : Value, (Emp u ∨ Emp v ∨ u = v) → (Emp v ∨ Emp u ∨ v = u) := fun u v h => by rcases h with h | h | h; exact .inr (.inl h); exact .inl h; exact .inr (.inr h.symm)
  refine ⟨fun v hv => ?_, fun u hu v hv e => ?_⟩
  · simp only [List.mem_cons, List.not_mem_nil, or_false] at hv
    rcases hv with rfl | rfl | rfl
    · exact rowE_ow h1 l1
    · exact rowE_ow h2 l2
    · exact rowE_ow h3 l3
  · simp only [List.mem_cons, List.not_mem_nil, or_false] at hu hv
    rcases hu with rfl | rfl | rfl <;> rcases hv with rfl | rfl | rfl
    · exact .inr (.inr rfl)
    · exact ap _ _ _ _ h1 h2 a12 e
    · exact ap _ _ _ _ h1 h3 a13 e
    · exact sw _ _ (ap _ _ _ _ h1 h2 a12 e.symm)
    · exact .inr (.inr rfl)
    · exact ap _ _ _ _ h2 h3 a23 e
    · exact sw _ _ (ap _ _ _ _ h1 h3 a13 e.symm)
    · exact sw _ _ (ap _ _ _ _ h2 h3 a23 e.symm)
    · exact .inr (.inr rfl)
theorem rowsE_three {w : World} {B g1 g2 g3 c1 c2 c3 m1 m2 m3 : Nat} (r1 : RowE w B (.slice (some ⟨g1, 0, none⟩) m1 c1)) (r2 : RowE w B (.slice (some ⟨g2, 0, none⟩) m2 c2)) (r3 : RowE w B (.slice (some ⟨g3, 0, none⟩) m3 c3)) (h : g1 < g2 ∧ g2 < g3) :
    RowsE w B [.slice (some ⟨g1, 0, none⟩) m1 c1, .slice (some ⟨g2, 0, none⟩) m2 c2, .slice (some ⟨g3, 0, none⟩) m3 c3] := by
  refine ⟨fun v hv => ?_, fun u hu v hv e => ?_⟩
  · simp only [List.mem_cons, List.not_mem_nil, or_false] at hv
    rcases hv with rfl | rfl | rfl <;> assumption
  · right; right
    simp only [List.mem_cons, List.not_mem_nil, or_false] at hu hv
    rcases hu with rfl | rfl | rfl <;> rcases hv with rfl | rfl | rfl <;> first | rfl | (simp only [Value.ownBlock, Option.some.injEq] at e; omega)
/-- The machine, made at base, apart from what was there at U. -/
def PMU (U : World) (base : Nat) (wr : World) (b sb ge : Nat) (code : List In4) (inp : List Bool) (s : Mc) : Prop := ∃ o nt, PM wr base b sb o ge nt code inp s ∧ Nx U wr ∧ U.heap.size ≤ base
section
variable {U w w' : World} {base b sb ge : Nat} {code : List In4} {inp : List Bool} {s : Mc}
theorem PMU.nx (h : PMU U base w b sb ge code inp s) (k : Nx w w') : PMU U base w' b sb ge code inp s := by
  obtain ⟨o, nt, h1, h2, h3⟩ := h; exact ⟨o, nt, h1.nx k, h2.trans k, h3⟩
theorem PMU.up (h : PMU U base w b sb ge code inp s) : Nx U w := by obtain ⟨o, nt, _, h2, _⟩ := h; exact h2
theorem PMU.turn (h : PMU U base w b sb ge code inp s) {r : Option Nat} (k : w.grownBy w' r) (hr : ∀ g, r = some g → U.heap.size ≤ g ∧ g < base) : PMU U base w' b sb ge code inp s := by
  obtain ⟨o, nt, h1, h2, h3⟩ := h
  exact ⟨o, nt, h1.kept fun j hj hl _ => k.block j hl (fun e => by have := hr j e.symm; omega), Below.grown h2 k h2.size (fun j e => (hr j e).1), h3⟩
theorem PMU.step (h : PMU U base w b sb ge code inp s) (hf : Fit s) (hn : NF s) :
    Calls Try.prog 16 #[.pointer (some ⟨b, 0, none⟩)] w (fun e w' => e = .returned (.tuple #[.bool (stp code inp s).2.1, .int .i64 (stp code inp s).2.2]) ∧ PMU U base w' b sb ge code inp (stp code inp s).1) := by
  obtain ⟨o, nt, h1, h2, h0⟩ := h
  refine (vmStep_any _ b sb o ge nt code inp s hf hn w h1).mono fun e w' hh => ?_
  obtain ⟨rfl, o', nt', h3, _, hm⟩ := hh
  obtain ⟨b1, b2, b3, b4⟩ := h1.base_le
  exact ⟨rfl, o', nt', h3, h2.mp hm (by omega) (by omega) (fun j e => by have := b4 j e; omega) (by omega), h0⟩
theorem PMU.at (h : PMU U base w b sb ge code inp s) : Calls Try.prog 19 #[.pointer (some ⟨b, 0, none⟩)] w (fun e w' => e = .returned (.int .i64 (s.pc : Int)) ∧ Nx w w') := by
  obtain ⟨o, nt, h1, _⟩ := h; exact vmAt_any _ b sb o ge nt code inp s w h1
theorem PMU.st (h : PMU U base w b sb ge code inp s) (hf : Fit s) : Calls Try.prog 20 #[.pointer (some ⟨b, 0, none⟩)] w (CopyP s w) := by
  obtain ⟨o, nt, h1, _⟩ := h; exact vmState_any _ b sb o ge nt code inp s hf w h1
end

set_option maxHeartbeats 6400000 in
set_option maxRecDepth 100000 in
theorem law6_iso_big (Ac Ai A1 A2 A3 : Option Addr) (nc cc ni ci m1 c1 m2 c2 m3 c3 : Nat) (h : ¬ sm6 nc ni m1 m2 m3) (w : World) :
    Calls Try.prog 6 #[.slice Ac nc cc, .slice Ai ni ci, .agg #[.slice A1 m1 c1, .slice A2 m2 c2, .slice A3 m3 c3]] w fun e w' => e = .returned (.bool true) ∧ Nx w w' := by
  have N0 := Lib.hid (Nx.one w (.cells #[.slice A1 m1 c1, .slice A2 m2 c2, .slice A3 m3 c3] 25))
  have XS := bx_new w 25 [.slice A1 m1 c1, .slice A2 m2 c2, .slice A3 m3 c3]
  have x0 := XS.cell 0 rfl
  have x1 := XS.cell 1 rfl
  have x2 := XS.cell 2 rfl
  clear XS
  go_enter Try.func6, Try.ntmps6
  go_wp2_with fail
  clear x0 x1 x2
  generalize w.alloc (.cells #[.slice A1 m1 c1, .slice A2 m2 c2, .slice A3 m3 c3] 25) = W at *
  refine (large6_yes Ac Ai A1 A2 A3 nc cc ni ci m1 m2 m3 c1 c2 c3 h W).mono ?_
  rintro e w1 ⟨rfl, hn⟩
  have N1 := Lib.hid (N0.out.trans hn)
  clear hn
  go_wp2_with fail
  refine (al_ok w1).mono ?_
  rintro e w2 ⟨rfl, hn⟩
  have N2 := Lib.hid (N1.out.trans hn)
  clear hn
  go_wp2_with fail
  go_ret
  exact ⟨rfl, N2.out⟩

def psiI (rb b p1 p2 p3 t1 t2 t3 : Nat) (B1 B2 B3 : Option Addr) (m1 m2 m3 d1 d2 d3 : Nat) (s1 : Mc) (j : Nat) (f : Nat → Value) (_ : World) : Prop := match j with
  | 0 => f 0 = .bool true
  | 1 => f 1 = .bool true
  | 2 => f 2 = .agg #[.slice (some ⟨p1, 0, none⟩) s1.q.length t1, .slice (some ⟨p2, 0, none⟩) s1.m.length t2, .slice (some ⟨p3, 0, none⟩) s1.e.length t3]
  | 3 => f 3 = .pointer (some ⟨rb, 0, none⟩)
  | 4 => f 4 = .agg #[.slice B1 m1 d1, .slice B2 m2 d2, .slice B3 m3 d3]
  | 5 => f 5 = .bool true
  | 6 => f 6 = .bool true
  | 7 => f 7 = .bool true
  | 8 => f 8 = .pointer (some ⟨b, 0, none⟩)
  | 9 => f 9 = .int .i64 (s1.pc : Int)
  | 10 => f 10 = .pointer (some ⟨rb, 4, none⟩)
  | 11 => f 11 = .int .i64 (s1.pc : Int)
  | 12 => f 12 = .bool true
  | 13 => f 13 = .bool true
  | 14 => f 14 = .bool true
  | _ => False

set_option maxHeartbeats 64000000 in
set_option maxRecDepth 100000 in
theorem law6_iso_small (code : List In4) (inp y1 y2 y3 : List Bool) (Ac Ai A1 A2 A3 : Option Addr) (cc ni ci m1 c1 m2 c2 m3 c3 : Nat) (h : sm6 code.length ni m1 m2 m3) (w : World)
    (hc : RdC w Ac code) (hcn : Ac = none → cc = 0) (hi : Im w Ai ni ci inp) (h1 : Im w A1 m1 c1 y1) (h2 : Im w A2 m2 c2 y2) (h3 : Im w A3 m3 c3 y3) :
    Calls Try.prog 6 #[.slice Ac code.length cc, .slice Ai ni ci, .agg #[.slice A1 m1 c1, .slice A2 m2 c2, .slice A3 m3 c3]] w fun e w' => e = .returned (.bool true) ∧ Nx w w' := by
  have hs : code.length ≤ 1000000 ∧ ni ≤ 1000000 ∧ m1 ≤ 1000000 ∧ m2 ≤ 1000000 ∧ m3 ≤ 1000000 := by obtain ⟨a, b, c, d, e⟩ := h; exact ⟨by omega, by omega, by omega, by omega, by omega⟩
  have N0 := Lib.hid (Nx.one w (.cells #[.slice A1 m1 c1, .slice A2 m2 c2, .slice A3 m3 c3] 25))
  have XS := bx_new w 25 [.slice A1 m1 c1, .slice A2 m2 c2, .slice A3 m3 c3]
  have x0 := XS.cell 0 rfl
  have x1 := XS.cell 1 rfl
  have x2 := XS.cell 2 rfl
  have HX := Lib.hid XS
  have HC := Lib.hid hc
  have HN := Lib.hid hcn
  have HI := Lib.hid hi
  have H1 := Lib.hid h1
  have H2 := Lib.hid h2
  have H3 := Lib.hid h3
  have HS := Lib.hid hs
  have HM := Lib.hid h
  clear XS hc hcn hi h1 h2 h3 hs h
  have HA := Lib.hid (show ∀ w' : World, Calls Try.prog 12 #[] w' (fun e w2 => e = .returned (.bool true) ∧ Nx w' w2) from al_ok)
  go_enter Try.func6, Try.ntmps6
  go_wp2_with fail
  clear x0 x1 x2
  generalize w.alloc (.cells #[.slice A1 m1 c1, .slice A2 m2 c2, .slice A3 m3 c3] 25) = W at *
  refine (large6_no Ac Ai A1 A2 A3 _ cc ni ci m1 m2 m3 c1 c2 c3 HM.out W).mono ?_
  rintro e w1 ⟨rfl, hn⟩
  have N1 := Lib.hid (N0.out.trans hn)
  have HX1 := Lib.hid (HX.out.nx hn)
  clear hn HX N0
  have x0 := HX1.out.cell 0 rfl
  have x1 := HX1.out.cell 1 rfl
  have x2 := HX1.out.cell 2 rfl
  go_wp2_with fail
  clear x0 x1 x2
  refine (vmRunOk code inp y1 y2 y3 Ac Ai A1 A2 A3 cc ni ci m1 c1 m2 c2 m3 c3 w1 HS.out.1 HS.out.2.1 HS.out.2.2.1 HS.out.2.2.2.1 HS.out.2.2.2.2 (HC.out.nx N1.out) HN.out (HI.out.nx N1.out) (H1.out.nx N1.out) (H2.out.nx N1.out) (H3.out.nx N1.out)).mono ?_
  intro e w2 hp
  obtain ⟨B1, B2, B3, d1, d2, d3, rfl, i1, i2, i3, hn⟩ := runPost_cells hp
  have N2 := Lib.hid (N1.out.trans hn)
  have HX2 := Lib.hid (HX1.out.nx hn)
  clear hn HX1 hp
  obtain ⟨r, hr⟩ : ∃ r, run code inp (mc0 y1 y2 y3) 0 = r := ⟨_, rfl⟩
  have HR := Lib.hid hr
  have hlen : r.1.q.length = m1 ∧ r.1.m.length = m2 ∧ r.1.e.length = m3 := by
    have := run_len code inp (mc0 y1 y2 y3) 0
    rw [hr] at this
    exact ⟨this.1.trans (im_len H1.out), this.2.1.trans (im_len H2.out), this.2.2.trans (im_len H3.out)⟩
  have HFT := Lib.hid (fit_mc0 (code := code) HS.out.1 (x1 := y1) (x2 := y2) (x3 := y3) ⟨by rw [im_len H1.out]; exact HS.out.2.2.1, by rw [im_len H2.out]; exact HS.out.2.2.2.1, by rw [im_len H3.out]; exact HS.out.2.2.2.2⟩)
  rw [hr] at i1 i2 i3 ⊢
  obtain ⟨l1, l2, l3⟩ := hlen
  rw [l1] at i1
  rw [l2] at i2
  rw [l3] at i3
  rw [l1, l2, l3]
  have LL := Lib.hid (And.intro l1 (And.intro l2 l3))
  have I1 := Lib.hid i1
  have I2 := Lib.hid i2
  have I3 := Lib.hid i3
  clear i1 i2 i3 hr l1 l2 l3
  obtain ⟨rn, hrn⟩ : ∃ rn, r.2 = rn := ⟨_, rfl⟩
  obtain ⟨rp, hrp⟩ : ∃ rp, r.1.pc = rp := ⟨_, rfl⟩
  obtain ⟨rf, hrf⟩ : ∃ rf, r.1.flt = rf := ⟨_, rfl⟩
  have HRP := Lib.hid hrp
  rw [hrn, hrp, hrf]
  clear hrn hrp hrf
  have YB := bx_new w2 30 [.slice B1 m1 d1, .slice B2 m2 d2, .slice B3 m3 d3, .int .i64 (rn : Int), .int .i64 (rp : Int), .int .i64 rf]
  have k := Nx.one w2 (.cells #[.slice B1 m1 d1, .slice B2 m2 d2, .slice B3 m3 d3, .int .i64 (rn : Int), .int .i64 (rp : Int), .int .i64 rf] 30)
  have HY := Lib.hid YB
  have N3 := Lib.hid (N2.out.trans k)
  have K3 := Lib.hid k
  have HX3 := Lib.hid (HX2.out.nx k)
  have x0 := HX3.out.cell 0 rfl
  have x1 := HX3.out.cell 1 rfl
  have x2 := HX3.out.cell 2 rfl
  clear YB k HX2
  go_wp2_with fail
  clear x0 x1 x2
  generalize w2.alloc (.cells #[.slice B1 m1 d1, .slice B2 m2 d2, .slice B3 m3 d3, .int .i64 (rn : Int), .int .i64 (rp : Int), .int .i64 rf] 30) = W3 at *
  refine (refClone_ok A1 A2 A3 m1 m2 m3 c1 c2 c3 y1 y2 y3 HS.out.2.2.1 HS.out.2.2.2.1 HS.out.2.2.2.2 W3 (H1.out.nx N3.out) (H2.out.nx N3.out) (H3.out.nx N3.out)).mono ?_
  rintro e w4 ⟨v, rfl, hv, hn⟩
  obtain ⟨v1, v2, v3, rfl, ⟨o1, o2, o3⟩, ⟨a12, a13, a23⟩⟩ := hv
  have RW := Lib.hid (rowsE_od o1 o2 o3 a12 a13 a23 (by rw [im_len H1.out]; exact HS.out.2.2.1) (by rw [im_len H2.out]; exact HS.out.2.2.2.1) (by rw [im_len H3.out]; exact HS.out.2.2.2.2))
  have RG := Lib.hid (show ∀ v ∈ [v1, v2, v3], ∀ g, v.ownBlock = some g → W3.heap.size ≤ g ∧ g < w4.heap.size from fun v hv g hg => by
    simp only [List.mem_cons, List.not_mem_nil, or_false] at hv
    rcases hv with rfl | rfl | rfl
    · exact o1.in17 g hg
    · exact o2.in17 g hg
    · exact o3.in17 g hg)
  obtain ⟨Q1, k1, rfl, i1⟩ := o1.im
  obtain ⟨Q2, k2, rfl, i2⟩ := o2.im
  obtain ⟨Q3, k3, rfl, i3⟩ := o3.im
  rw [im_len H1.out] at i1
  rw [im_len H2.out] at i2
  rw [im_len H3.out] at i3
  rw [im_len H1.out, im_len H2.out, im_len H3.out] at RW RG ⊢
  have J1 := Lib.hid i1
  have J2 := Lib.hid i2
  have J3 := Lib.hid i3
  have K4 := Lib.hid hn
  clear hn o1 o2 o3 i1 i2 i3 a12 a13 a23
  have XO := Lib.hid (bx_new w4 25 [.slice Q1 m1 k1, .slice Q2 m2 k2, .slice Q3 m3 k3])
  have k := Lib.hid (Nx.one w4 (.cells #[.slice Q1 m1 k1, .slice Q2 m2 k2, .slice Q3 m3 k3] 25))
  have q0 := XO.out.cell 0 rfl
  have q1 := XO.out.cell 1 rfl
  have q2 := XO.out.cell 2 rfl
  go_wp2_with fail
  clear q0 q1 q2
  have K5 := Lib.hid (K4.out.trans k.out)
  have HO5 := Lib.hid (show w4.heap.size < (w4.alloc (.cells #[.slice Q1 m1 k1, .slice Q2 m2 k2, .slice Q3 m3 k3] 25)).heap.size by simp)
  generalize w4.alloc (.cells #[.slice Q1 m1 k1, .slice Q2 m2 k2, .slice Q3 m3 k3] 25) = W5 at *
  refine (vmNew_any code inp y1 y2 y3 HS.out.1 Ac Ai Q1 Q2 Q3 cc ni ci m1 k1 m2 k2 m3 k3 HS.out.2.1 HS.out.2.2.1 HS.out.2.2.2.1 HS.out.2.2.2.2 W5 (HC.out.nx (N3.out.trans K5.out)) HN.out (HI.out.nx (N3.out.trans K5.out)) (J1.out.nx k.out) (J2.out.nx k.out) (J3.out.nx k.out)).mono ?_
  rintro e w6 ⟨b, sb, ge, rfl, hp, hk⟩
  have P6 := Lib.hid (show PMU W3 W5.heap.size w6 b sb ge code inp (mc0 y1 y2 y3) from ⟨none, 0, hp, K5.out.trans hk, K5.out.size⟩)
  have RW6 := Lib.hid ((RW.out.nx k.out).nx hk)
  have q0 := (XO.out.nx hk).cell 0 rfl
  have q1 := (XO.out.nx hk).cell 1 rfl
  have q2 := (XO.out.nx hk).cell 2 rfl
  have XL := Lib.hid (bx_new w6 23 [.slice Q1 m1 k1, .slice Q2 m2 k2, .slice Q3 m3 k3])
  have k7 := Lib.hid (Nx.one w6 (.cells #[.slice Q1 m1 k1, .slice Q2 m2 k2, .slice Q3 m3 k3] 23))
  have HGL := Lib.hid (show ∀ g, W3.heap.size ≤ g ∧ g < w4.heap.size → g < W5.heap.size ∧ g ≠ w6.heap.size from fun g hg => by have := hk.size; have := HO5.out; omega)
  obtain ⟨L, hL⟩ : ∃ L, code.length = L := ⟨_, rfl⟩
  have hL6 : L ≤ 1000000 := by have := HS.out.1; omega
  have HNF := Lib.hid (nf_mc0 y1 y2 y3)
  have HLT := Lib.hid (show (mc0 y1 y2 y3).hlt = false from rfl)
  have H0 := Lib.hid (show mu code (mc0 y1 y2 y3) ≤ L + 1 by simp [mu, mc0, hL])
  rw [hL]
  have HL := Lib.hid hL
  clear hp hk RW XO J1 J2 J3 hL
  generalize mc0 y1 y2 y3 = s0 at *
  go_wp2_with fail
  clear q0 q1 q2
  have P7 := Lib.hid (P6.out.nx k7.out)
  have RW7 := Lib.hid (RW6.out.nx k7.out)
  clear RW6 P6 k7
  generalize w6.heap.size = gL at *
  generalize w6.alloc (.cells #[.slice Q1 m1 k1, .slice Q2 m2 k2, .slice Q3 m3 k3] 23) = W7 at *
  have hm3 : m1 ≤ 1000000 ∧ m2 ≤ 1000000 ∧ m3 ≤ 1000000 := HS.out.2.2
  generalize hVV : ([.slice Q1 m1 k1, .slice Q2 m2 k2, .slice Q3 m3 k3] : List Value) = VV at *
  have L3 : VV.length = 3 := by rw [← hVV]; rfl
  clear hVV hm3
  go_loopw [44] (fun i wr => ∃ q : Nat, q ≤ 3 ∧ i = .int .i64 q ∧ Bx wr gL 23 VV ∧ RowsE wr W3.heap.size VV ∧ PMU W3 W5.heap.size wr b sb ge code inp s0) (fun i _ => 3 - (intOf i).toNat)
  case atStart => exact ⟨0, by omega, rfl, XL.out, RW7.out, P7.out⟩
  case round =>
    obtain ⟨q, hq, rfl, hb, hr, hp⟩ := hrel
    have HB := Lib.hid hb
    have HRW := Lib.hid hr
    have HP := Lib.hid hp
    clear hb hr hp XL RW7 P7
    by_cases hlt : q < 3
    · obtain ⟨v, hv⟩ : ∃ v, VV[q]? = some v := ⟨_, List.getElem?_eq_getElem (by omega)⟩
      have hmem := List.mem_of_getElem? hv
      obtain ⟨A, m, c, rfl, hm, ho⟩ := HRW.out.1 v hmem
      have HM := Lib.hid hmem
      have HO := Lib.hid (show RowE wr W3.heap.size (.slice A m c) from ⟨A, m, c, rfl, hm, ho⟩)
      have HG := Lib.hid (fun g hg => (HGL.out g (RG.out _ hmem g hg)))
      have HG2 := Lib.hid (fun g hg => (RG.out _ hmem g hg).1)
      have gq := HB.out.cell q hv
      clear ho hmem hv
      go_wp2_with fail
      clear gq
      go_loopw [50] (fun i wr' => ∃ p : Nat, p ≤ m ∧ i = .int .i64 p ∧ wr.grownBy wr' (if m = 0 then none else (Value.slice A m c).ownBlock) ∧ RowE wr' W3.heap.size (.slice A m c)) (fun i _ => m - (intOf i).toNat)
      case atStart => exact ⟨0, Nat.zero_le _, rfl, (Nx.refl _).grown _, HO.out⟩
      case round =>
        obtain ⟨p, hp, rfl, hgr, hrow⟩ := hrel
        have GR := Lib.hid hgr
        have ROW := Lib.hid hrow
        clear hgr hrow
        by_cases hpm : p < m
        · obtain ⟨_, g, zs, rfl, hzl, og⟩ := ROW.out.flip (by omega)
          obtain ⟨bb, hb'⟩ := at_some zs p (by omega)
          have g1 := og.cell hb'
          have g2 := og.frozen p
          have HS' := Lib.hid (rowE_of (og.set p (!bb)) (by rw [List.length_set]; exact hzl) hm)
          clear og hb' hzl
          go_wp2
          go_roundw
          case rel => exact ⟨p + 1, by omega, by go_num, grown_trans GR.out (by rw [if_neg (by omega)]; exact grown_set _ g p (.bool (!bb))), HS'.out⟩
          case measure => simp [intOf]; omega
        · go_wp2
          go_roundw
          case rel =>
            refine ⟨q + 1, by omega, by go_num, (GR.out.block gL HB.out.lt (fun e => by by_cases h0 : m = 0; (rw [if_pos h0] at e; cases e); (rw [if_neg h0] at e; exact (HG.out gL e.symm).2 rfl))).trans HB.out, ?_, HP.out.turn GR.out (fun g hg => by by_cases h0 : m = 0; (rw [if_pos h0] at hg; cases hg); (rw [if_neg h0] at hg; exact ⟨HG2.out g hg, (HG.out g hg).1⟩))⟩
            exact HRW.out.step2 HM.out GR.out ROW.out
          case measure => simp [intOf]; omega
    · clear HRW
      go_wp2_with fail
      have P8 := Lib.hid (show PMU W3 W5.heap.size wr b sb ge code inp s0 from HP.out)
      clear HP HB HGL RG
      go_loopw [66] (fun vi wu => ∃ (s : Mc) (n : Nat), vi = .int .i64 n ∧ PMU W3 W5.heap.size wu b sb ge code inp s ∧ FitL code s ∧ n + mu code s ≤ L + 1 ∧ run code inp s n = run code inp s0 0 ∧ s.hlt = false ∧ NF s)
        (fun vi _ => L + 2 - (intOf vi).toNat)
      case atStart => exact ⟨s0, 0, rfl, P8.out, HFT.out, by have := H0.out; omega, rfl, HLT.out, HNF.out⟩
      case round =>
        obtain ⟨s, n, rfl, hr, hf, hle, hrun, hh, hnf⟩ := hrel
        clear P8 HFT H0 HLT HNF
        obtain ⟨s1, c1', e1, hS⟩ : ∃ s1 c1 e1, stp code inp s = (s1, c1, e1) := ⟨_, _, _, rfl⟩
        have hmu := stp_mu (code := code) (inp := inp) hh
        have F1 := stp_fit (inp := inp) hf
        have hr1 := run_step (code := code) (inp := inp) hh n
        have hru := stp_run (code := code) (inp := inp) hh hnf
        have hnf1 := stp_nf (code := code) (inp := inp) hnf
        have CL := Lib.hid (hr.step hf.1 hnf)
        rw [hS] at hmu F1 hr1 CL hru hnf1
        simp only at hmu F1 hr1 CL hru hnf1
        have HM := Lib.hid hmu
        have HF1 := Lib.hid F1
        have HR1 := Lib.hid (hr1.symm.trans hrun)
        have HU := Lib.hid hru
        have HNF1 := Lib.hid hnf1
        have HLE2 := Lib.hid hle
        have hn6 : n ≤ 1000001 := by omega
        have hmu1 : 0 < mu code s := by unfold mu; rw [hh]; simp
        have hin : (n : Int) < (L : Int) + 1 := by omega
        obtain ⟨hru1, _, _⟩ := hru
        subst hru1
        clear hmu F1 hr1 hr hf hle hrun hS hh hnf hnf1 hmu1
        obtain ⟨hl, hhl⟩ : ∃ hl, s1.hlt = hl := ⟨_, rfl⟩
        have HH := Lib.hid hhl
        rw [hhl] at CL
        clear hhl
        go_wp2_with fail
        refine CL.out.mono ?_
        rintro e u2 ⟨rfl, hp⟩
        have P2 := Lib.hid hp
        clear hp CL
        go_wp2_with fail
        refine (P2.out.st HF1.out.1).mono ?_
        rintro e u3 ⟨p1, p2, p3, t1, t2, t3, rfl, plt, ⟨o1, o2, o3⟩, hk⟩
        have hq := HF1.out.1.1
        have RS := Lib.hid (rowsE_three (rowE_of o1 rfl hq.1) (rowE_of o2 rfl hq.2.1) (rowE_of o3 rfl hq.2.2) plt)
        have OS3 := Lib.hid (And.intro o1 (And.intro o2 o3))
        have K3' := Lib.hid hk
        have XB := Lib.hid (bx_new u3 25 [.slice (some ⟨p1, 0, none⟩) s1.q.length t1, .slice (some ⟨p2, 0, none⟩) s1.m.length t2, .slice (some ⟨p3, 0, none⟩) s1.e.length t3])
        have k4 := Lib.hid (Nx.one u3 (.cells #[.slice (some ⟨p1, 0, none⟩) s1.q.length t1, .slice (some ⟨p2, 0, none⟩) s1.m.length t2, .slice (some ⟨p3, 0, none⟩) s1.e.length t3] 25))
        clear o1 o2 o3 hk plt hq
        cases hl with
        | false =>
          have he : e1 = 0 := HU.out.2.2 HH.out
          subst he
          have q0 := XB.out.cell 0 rfl
          have q1 := XB.out.cell 1 rfl
          have q2 := XB.out.cell 2 rfl
          have RG3 := Lib.hid (show ∀ v ∈ [Value.slice (some ⟨p1, 0, none⟩) s1.q.length t1, .slice (some ⟨p2, 0, none⟩) s1.m.length t2, .slice (some ⟨p3, 0, none⟩) s1.e.length t3], ∀ g, v.ownBlock = some g → u2.heap.size ≤ g ∧ g < u3.heap.size from fun v hv g hg => by
            simp only [List.mem_cons, List.not_mem_nil, or_false] at hv
            rcases hv with rfl | rfl | rfl
            · obtain rfl : p1 = g := by simpa [Value.ownBlock] using hg
              exact ⟨OS3.out.1.base_le, OS3.out.1.ty.lt⟩
            · obtain rfl : p2 = g := by simpa [Value.ownBlock] using hg
              exact ⟨OS3.out.2.1.base_le, OS3.out.2.1.ty.lt⟩
            · obtain rfl : p3 = g := by simpa [Value.ownBlock] using hg
              exact ⟨OS3.out.2.2.base_le, OS3.out.2.2.ty.lt⟩)
          go_wp2_with fail
          clear q0 q1 q2
          have XL2 := Lib.hid (bx_new (u3.alloc (.cells #[.slice (some ⟨p1, 0, none⟩) s1.q.length t1, .slice (some ⟨p2, 0, none⟩) s1.m.length t2, .slice (some ⟨p3, 0, none⟩) s1.e.length t3] 25)) 23 [.slice (some ⟨p1, 0, none⟩) s1.q.length t1, .slice (some ⟨p2, 0, none⟩) s1.m.length t2, .slice (some ⟨p3, 0, none⟩) s1.e.length t3])
          rw [show (u3.alloc (.cells #[.slice (some ⟨p1, 0, none⟩) s1.q.length t1, .slice (some ⟨p2, 0, none⟩) s1.m.length t2, .slice (some ⟨p3, 0, none⟩) s1.e.length t3] 25)).heap.size = u3.heap.size + 1 by simp] at XL2
          have k5 := Lib.hid (k4.out.alloc (.cells #[.slice (some ⟨p1, 0, none⟩) s1.q.length t1, .slice (some ⟨p2, 0, none⟩) s1.m.length t2, .slice (some ⟨p3, 0, none⟩) s1.e.length t3] 23))
          have RS5 := Lib.hid (RS.out.nx k5.out)
          have N5 := Lib.hid (K3'.out.trans k5.out)
          generalize (u3.alloc (.cells #[.slice (some ⟨p1, 0, none⟩) s1.q.length t1, .slice (some ⟨p2, 0, none⟩) s1.m.length t2, .slice (some ⟨p3, 0, none⟩) s1.e.length t3] 25)).alloc (.cells #[.slice (some ⟨p1, 0, none⟩) s1.q.length t1, .slice (some ⟨p2, 0, none⟩) s1.m.length t2, .slice (some ⟨p3, 0, none⟩) s1.e.length t3] 23) = Y at *
          generalize hVS : ([.slice (some ⟨p1, 0, none⟩) s1.q.length t1, .slice (some ⟨p2, 0, none⟩) s1.m.length t2, .slice (some ⟨p3, 0, none⟩) s1.e.length t3] : List Value) = VS at *
          have LS3 : VS.length = 3 := by rw [← hVS]; rfl
          have HGS := Lib.hid (fun (v : Value) (hv : v ∈ VS) g (hg : v.ownBlock = some g) => (show u2.heap.size ≤ g ∧ g ≠ u3.heap.size + 1 from ⟨(RG3.out v hv g hg).1, by have := (RG3.out v hv g hg).2; omega⟩))
          clear hVS XB k4 k5 RS OS3 K3' RG3
          generalize u3.heap.size + 1 = gS at *
          go_loopw [99] (fun i wv => ∃ q : Nat, q ≤ 3 ∧ i = .int .i64 q ∧ Bx wv gS 23 VS ∧ RowsE wv u2.heap.size VS ∧ Nx u2 wv) (fun i _ => 3 - (intOf i).toNat)
          case atStart => exact ⟨0, by omega, rfl, XL2.out, RS5.out, N5.out⟩
          case round =>
            obtain ⟨q', hq', rfl, hb, hr, hn⟩ := hrel
            have HB := Lib.hid hb
            have HRW := Lib.hid hr
            have HNN := Lib.hid hn
            clear hb hr hn XL2 RS5 N5
            by_cases hlt' : q' < 3
            · obtain ⟨v, hv⟩ : ∃ v, VS[q']? = some v := ⟨_, List.getElem?_eq_getElem (by omega)⟩
              have hmem := List.mem_of_getElem? hv
              obtain ⟨A, m, c, rfl, hm, ho⟩ := HRW.out.1 v hmem
              have HMm := Lib.hid hmem
              have HO := Lib.hid (show RowE wr u2.heap.size (.slice A m c) from ⟨A, m, c, rfl, hm, ho⟩)
              have HG := Lib.hid (fun g hg => (HGS.out _ hmem g hg))
              have gq := HB.out.cell q' hv
              clear ho hmem hv
              go_wp2_with fail
              clear gq
              go_loopw [105] (fun i wr' => ∃ p : Nat, p ≤ m ∧ i = .int .i64 p ∧ wr.grownBy wr' (if m = 0 then none else (Value.slice A m c).ownBlock) ∧ RowE wr' u2.heap.size (.slice A m c)) (fun i _ => m - (intOf i).toNat)
              case atStart => exact ⟨0, Nat.zero_le _, rfl, (Nx.refl _).grown _, HO.out⟩
              case round =>
                obtain ⟨p, hp, rfl, hgr, hrow⟩ := hrel
                have GR := Lib.hid hgr
                have ROW := Lib.hid hrow
                clear hgr hrow
                by_cases hpm : p < m
                · obtain ⟨_, g, zs, rfl, hzl, og⟩ := ROW.out.flip (by omega)
                  obtain ⟨bb, hb'⟩ := at_some zs p (by omega)
                  have g1 := og.cell hb'
                  have g2 := og.frozen p
                  have HS' := Lib.hid (rowE_of (og.set p (!bb)) (by rw [List.length_set]; exact hzl) hm)
                  clear og hb' hzl
                  go_wp2
                  go_roundw
                  case rel => exact ⟨p + 1, by omega, by go_num, grown_trans GR.out (by rw [if_neg (by omega)]; exact grown_set _ g p (.bool (!bb))), HS'.out⟩
                  case measure => simp [intOf]; omega
                · go_wp2
                  go_roundw
                  case rel =>
                    exact ⟨q' + 1, by omega, by go_num, (GR.out.block gS HB.out.lt (fun e => by by_cases h0 : m = 0; (rw [if_pos h0] at e; cases e); (rw [if_neg h0] at e; exact (HG.out gS e.symm).2 rfl))).trans HB.out, HRW.out.step2 HMm.out GR.out ROW.out,
                      Below.grown HNN.out GR.out HNN.out.size (fun k e => by by_cases h0 : m = 0; (rw [if_pos h0] at e; cases e); (rw [if_neg h0] at e; exact (HG.out k e).1))⟩
                  case measure => simp [intOf]; omega
            · clear HRW HB
              go_wp2_with fail
              go_roundw
              case rel => exact ⟨s1, n + 1, by go_num, P2.out.nx HNN.out, HF1.out, by have := HM.out; have := HLE2.out; omega, by have := HR1.out; simpa using this, HH.out, HNF1.out⟩
              case measure =>
                have h3 := HLE2.out
                have h4 := HM.out
                simp only [intOf]; omega
        | true =>
          have hflt : e1 = s1.flt := HU.out.2.1 HH.out
          have HR2 := Lib.hid (show run code inp s0 0 = (s1, if e1 = 0 then n + 1 else n) by rw [← HR1.out, run_hlt HH.out])
          clear hflt
          obtain ⟨k, hk⟩ : ∃ k, k = (if e1 = 0 then n + 1 else n) := ⟨_, rfl⟩
          rw [← hk] at HR2
          clear hk
          have hre : r = (s1, k) := HR.out.symm.trans HR2.out
          subst hre
          obtain rfl : s1.pc = rp := HRP.out
          have J1 := Lib.hid (show Im w2 B1 m1 d1 s1.q from I1.out)
          have J2 := Lib.hid (show Im w2 B2 m2 d2 s1.m from I2.out)
          have J3 := Lib.hid (show Im w2 B3 m3 d3 s1.e from I3.out)
          have KW := Lib.hid (show Nx W3 (u3.alloc (.cells #[.slice (some ⟨p1, 0, none⟩) s1.q.length t1, .slice (some ⟨p2, 0, none⟩) s1.m.length t2, .slice (some ⟨p3, 0, none⟩) s1.e.length t3] 25)) from (P2.out.up.trans K3'.out).trans k4.out)
          have P3 := Lib.hid (P2.out.nx (K3'.out.trans k4.out))
          have OS4 := Lib.hid (show OwB (u3.alloc (.cells #[.slice (some ⟨p1, 0, none⟩) s1.q.length t1, .slice (some ⟨p2, 0, none⟩) s1.m.length t2, .slice (some ⟨p3, 0, none⟩) s1.e.length t3] 25)) u2.heap.size p1 t1 s1.q ∧ OwB (u3.alloc (.cells #[.slice (some ⟨p1, 0, none⟩) s1.q.length t1, .slice (some ⟨p2, 0, none⟩) s1.m.length t2, .slice (some ⟨p3, 0, none⟩) s1.e.length t3] 25)) u2.heap.size p2 t2 s1.m ∧ OwB (u3.alloc (.cells #[.slice (some ⟨p1, 0, none⟩) s1.q.length t1, .slice (some ⟨p2, 0, none⟩) s1.m.length t2, .slice (some ⟨p3, 0, none⟩) s1.e.length t3] 25)) u2.heap.size p3 t3 s1.e from ⟨OS3.out.1.nx k4.out, OS3.out.2.1.nx k4.out, OS3.out.2.2.nx k4.out⟩)
          clear HR HR2 HR1 HRP HM HLE2 I1 I2 I3 RS OS3 HU
          go_wp2_with fail
          generalize u3.heap.size = sbx at *
          generalize w2.heap.size = rb at *
          generalize (u3.alloc (.cells #[.slice (some ⟨p1, 0, none⟩) s1.q.length t1, .slice (some ⟨p2, 0, none⟩) s1.m.length t2, .slice (some ⟨p3, 0, none⟩) s1.e.length t3] 25)) = U4 at *
          have HYW := Lib.hid (fun w' (q : Nx U4 w') => (show (w'.cell? ⟨rb, 0, none⟩ = some (.slice B1 m1 d1) ∧ w'.cell? ⟨rb, 1, none⟩ = some (.slice B2 m2 d2) ∧ w'.cell? ⟨rb, 2, none⟩ = some (.slice B3 m3 d3) ∧ w'.cell? ⟨rb, 4, none⟩ = some (.int .i64 (s1.pc : Int))) ∧ w'.cell? ⟨sbx, 0, none⟩ = some (.slice (some ⟨p1, 0, none⟩) s1.q.length t1) ∧ w'.cell? ⟨sbx, 1, none⟩ = some (.slice (some ⟨p2, 0, none⟩) s1.m.length t2) ∧ w'.cell? ⟨sbx, 2, none⟩ = some (.slice (some ⟨p3, 0, none⟩) s1.e.length t3) from
            ⟨⟨(HY.out.nx (KW.out.trans q)).cell 0 rfl, (HY.out.nx (KW.out.trans q)).cell 1 rfl, (HY.out.nx (KW.out.trans q)).cell 2 rfl, (HY.out.nx (KW.out.trans q)).cell 4 rfl⟩, (XB.out.nx q).cell 0 rfl, (XB.out.nx q).cell 1 rfl, (XB.out.nx q).cell 2 rfl⟩))
          have CA := Lib.hid (fun w' (q : Nx U4 w') => (P3.out.nx q).at)
          refine wp_region_run (by kernel_rfl) (by kernel_rfl) (by kernel_rfl) (fun _ => []) (by kernel_rfl) Nx (fun _ _ k => k) (fun _ _ _ => Nx.trans) 15 (fun _ => True) (psiI rb b p1 p2 p3 t1 t2 t3 B1 B2 B3 m1 m2 m3 d1 d2 d3 s1) ?_ ?_ ?_ (fun _ _ _ h => h) trivial ?_ ?_
          · intro j f f' u e hs hp
            unfold psiI at hp ⊢
            split at hp
            all_goals first | exact hp | (rw [← e]; exact hp)
          · intro j f u u' hj k hp
            unfold psiI at hp ⊢
            split at hp
            all_goals exact hp
          · intro f u u' k hp
            exact hp
          · intro i o ho a1 w1 K hF hJ hR hE hK
            have hsz : a1.tmps.size = 119 := hF.2.1
            have f7 : a1.tmps[7]?.getD undef = .pointer (some ⟨rb, 0, none⟩) := tmp_of (hF.2.2 7 (by kernel_rfl))
            have f9 : a1.tmps[9]?.getD undef = .pointer (some ⟨b, 0, none⟩) := tmp_of (hF.2.2 9 (by kernel_rfl))
            have f15 : a1.tmps[15]?.getD undef = .pointer (some ⟨sbx, 0, none⟩) := tmp_of (hF.2.2 15 (by kernel_rfl))
            obtain ⟨⟨z0, z1, z2, z4⟩, y0, y1', y2'⟩ := HYW.out w1 hR
            rcases i with _ | _ | _ | _ | _ | _ | _ | _ | _ | _ | _ | _ | _ | _ | _ | i
            · obtain rfl := Option.some.inj ho
              refine Or.inl ⟨wanted_none rfl, ?_⟩
              have hR0 := Lib.hid hR
              have hK0 := Lib.hid hK
              clear hK hE hF hR hJ hsz
              unfold Oper.wp
              go_simp
              refine (HA.out _).mono ?_
              rintro e v6 ⟨rfl, q6⟩
              exact hK0.out (.bool true) _ (fun _ => q6) (fun h => by cases h) (upd_same _ _ _) (fun h => by cases h)
            · obtain rfl := Option.some.inj ho
              refine Or.inl ⟨wanted_none rfl, ?_⟩
              have e77 : a1.tmps[77]?.getD undef = .bool true := tmp_of (show a1.tmps.getD 77 undef = _ from hE ⟨0, .data⟩ (by simp) rfl)
              have hK0 := Lib.hid hK
              clear hK hE hF hR hJ hsz
              unfold Oper.wp
              go_simp
              exact hK0.out (.bool true) _ (fun _ => Nx.refl _) (fun h => by cases h) (upd_same _ _ _) (fun h => by cases h)
            · obtain rfl := Option.some.inj ho
              refine Or.inl ⟨(wanted_of (b := true) rfl rfl (by rw [hsz]; decide) (hE ⟨1, .guard⟩ (by simp) rfl)).trans (by rfl), ?_⟩
              have hK0 := Lib.hid hK
              clear hK hE hF hR hJ hsz
              unfold Oper.wp
              go_simp
              exact hK0.out (.agg #[.slice (some ⟨p1, 0, none⟩) s1.q.length t1, .slice (some ⟨p2, 0, none⟩) s1.m.length t2, .slice (some ⟨p3, 0, none⟩) s1.e.length t3]) _ (fun _ => Nx.refl _) (fun h => by cases h) (upd_same _ _ _) (fun h => by cases h)
            · obtain rfl := Option.some.inj ho
              refine Or.inl ⟨(wanted_of (b := true) rfl rfl (by rw [hsz]; decide) (hE ⟨1, .guard⟩ (by simp) rfl)).trans (by rfl), ?_⟩
              have hK0 := Lib.hid hK
              clear hK hE hF hR hJ hsz
              unfold Oper.wp
              go_simp
              exact hK0.out (.pointer (some ⟨rb, 0, none⟩)) _ (fun _ => Nx.refl _) (fun h => by cases h) (upd_same _ _ _) (fun h => by cases h)
            · obtain rfl := Option.some.inj ho
              refine Or.inl ⟨(wanted_of (b := true) rfl rfl (by rw [hsz]; decide) (hE ⟨1, .guard⟩ (by simp) rfl)).trans (by rfl), ?_⟩
              have e80 : a1.tmps[80]?.getD undef = .pointer (some ⟨rb, 0, none⟩) := tmp_of (show a1.tmps.getD 80 undef = _ from hE ⟨3, .data⟩ (by simp) rfl)
              have hK0 := Lib.hid hK
              clear hK hE hF hR hJ hsz
              unfold Oper.wp
              go_simp
              exact hK0.out (.agg #[.slice B1 m1 d1, .slice B2 m2 d2, .slice B3 m3 d3]) _ (fun _ => Nx.refl _) (fun h => by cases h) (upd_same _ _ _) (fun h => by cases h)
            · obtain rfl := Option.some.inj ho
              refine Or.inl ⟨(wanted_of (b := true) rfl rfl (by rw [hsz]; decide) (hE ⟨1, .guard⟩ (by simp) rfl)).trans (by rfl), ?_⟩
              have e79 : a1.tmps[79]?.getD undef = .agg #[.slice (some ⟨p1, 0, none⟩) s1.q.length t1, .slice (some ⟨p2, 0, none⟩) s1.m.length t2, .slice (some ⟨p3, 0, none⟩) s1.e.length t3] := tmp_of (show a1.tmps.getD 79 undef = _ from hE ⟨2, .data⟩ (by simp) rfl)
              have e81 : a1.tmps[81]?.getD undef = .agg #[.slice B1 m1 d1, .slice B2 m2 d2, .slice B3 m3 d3] := tmp_of (show a1.tmps.getD 81 undef = _ from hE ⟨4, .data⟩ (by simp) rfl)
              have hR0 := Lib.hid hR
              have hK0 := Lib.hid hK
              clear hK hE hF hR hJ hsz
              unfold Oper.wp
              go_simp
              refine (stRefEqual_any (some ⟨p1, 0, none⟩) (some ⟨p2, 0, none⟩) (some ⟨p3, 0, none⟩) s1.q.length s1.m.length s1.e.length t1 t2 t3 B1 B2 B3 m1 m2 m3 d1 d2 d3 s1.q s1.m s1.e s1.q s1.m s1.e HF1.out.1.1.1 HF1.out.1.1.2.1 HF1.out.1.1.2.2 w1 ((OS4.out.1.nx hR0.out).im rfl) ((OS4.out.2.1.nx hR0.out).im rfl) ((OS4.out.2.2.nx hR0.out).im rfl) (J1.out.nx (K3.out.trans (KW.out.trans hR0.out))) (J2.out.nx (K3.out.trans (KW.out.trans hR0.out))) (J3.out.nx (K3.out.trans (KW.out.trans hR0.out)))).mono ?_
              rintro e v6 ⟨rfl, q6⟩
              rw [show (eqB s1.q s1.q && eqB s1.m s1.m && eqB s1.e s1.e) = true by simp [eqB]]
              exact hK0.out (.bool true) _ (fun _ => q6) (fun h => by cases h) (upd_same _ _ _) (fun h => by cases h)
            · obtain rfl := Option.some.inj ho
              refine Or.inl ⟨wanted_none rfl, ?_⟩
              have e78 : a1.tmps[78]?.getD undef = .bool true := tmp_of (show a1.tmps.getD 78 undef = _ from hE ⟨1, .data⟩ (by simp) rfl)
              have e82 : a1.tmps[82]?.getD undef = .bool true := tmp_of (show a1.tmps.getD 82 undef = _ from hE ⟨5, .data⟩ (by simp) rfl)
              have hK0 := Lib.hid hK
              clear hK hE hF hR hJ hsz
              unfold Oper.wp
              go_simp
              exact hK0.out (.bool true) _ (fun _ => Nx.refl _) (fun h => by cases h) (upd_same _ _ _) (fun h => by cases h)
            · obtain rfl := Option.some.inj ho
              refine Or.inl ⟨wanted_none rfl, ?_⟩
              have e83 : a1.tmps[83]?.getD undef = .bool true := tmp_of (show a1.tmps.getD 83 undef = _ from hE ⟨6, .data⟩ (by simp) rfl)
              have hK0 := Lib.hid hK
              clear hK hE hF hR hJ hsz
              unfold Oper.wp
              go_simp
              exact hK0.out (.bool true) _ (fun _ => Nx.refl _) (fun h => by cases h) (upd_same _ _ _) (fun h => by cases h)
            · obtain rfl := Option.some.inj ho
              refine Or.inl ⟨(wanted_of (b := true) rfl rfl (by rw [hsz]; decide) (hE ⟨7, .guard⟩ (by simp) rfl)).trans (by rfl), ?_⟩
              have hK0 := Lib.hid hK
              clear hK hE hF hR hJ hsz
              unfold Oper.wp
              go_simp
              exact hK0.out (.pointer (some ⟨b, 0, none⟩)) _ (fun _ => Nx.refl _) (fun h => by cases h) (upd_same _ _ _) (fun h => by cases h)
            · obtain rfl := Option.some.inj ho
              refine Or.inl ⟨(wanted_of (b := true) rfl rfl (by rw [hsz]; decide) (hE ⟨7, .guard⟩ (by simp) rfl)).trans (by rfl), ?_⟩
              have e85 : a1.tmps[85]?.getD undef = .pointer (some ⟨b, 0, none⟩) := tmp_of (show a1.tmps.getD 85 undef = _ from hE ⟨8, .data⟩ (by simp) rfl)
              have hR0 := Lib.hid hR
              have hK0 := Lib.hid hK
              clear hK hE hF hR hJ hsz
              unfold Oper.wp
              go_simp
              refine (CA.out _ hR0.out).mono ?_
              rintro e v6 ⟨rfl, q6⟩
              exact hK0.out (.int .i64 (s1.pc : Int)) _ (fun _ => q6) (fun h => by cases h) (upd_same _ _ _) (fun h => by cases h)
            · obtain rfl := Option.some.inj ho
              refine Or.inl ⟨(wanted_of (b := true) rfl rfl (by rw [hsz]; decide) (hE ⟨7, .guard⟩ (by simp) rfl)).trans (by rfl), ?_⟩
              have hK0 := Lib.hid hK
              clear hK hE hF hR hJ hsz
              unfold Oper.wp
              go_simp
              exact hK0.out (.pointer (some ⟨rb, 4, none⟩)) _ (fun _ => Nx.refl _) (fun h => by cases h) (upd_same _ _ _) (fun h => by cases h)
            · obtain rfl := Option.some.inj ho
              refine Or.inl ⟨(wanted_of (b := true) rfl rfl (by rw [hsz]; decide) (hE ⟨7, .guard⟩ (by simp) rfl)).trans (by rfl), ?_⟩
              have e87 : a1.tmps[87]?.getD undef = .pointer (some ⟨rb, 4, none⟩) := tmp_of (show a1.tmps.getD 87 undef = _ from hE ⟨10, .data⟩ (by simp) rfl)
              have hK0 := Lib.hid hK
              clear hK hE hF hR hJ hsz
              unfold Oper.wp
              go_simp
              exact hK0.out (.int .i64 (s1.pc : Int)) _ (fun _ => Nx.refl _) (fun h => by cases h) (upd_same _ _ _) (fun h => by cases h)
            · obtain rfl := Option.some.inj ho
              refine Or.inl ⟨(wanted_of (b := true) rfl rfl (by rw [hsz]; decide) (hE ⟨7, .guard⟩ (by simp) rfl)).trans (by rfl), ?_⟩
              have e86 : a1.tmps[86]?.getD undef = .int .i64 (s1.pc : Int) := tmp_of (show a1.tmps.getD 86 undef = _ from hE ⟨9, .data⟩ (by simp) rfl)
              have e88 : a1.tmps[88]?.getD undef = .int .i64 (s1.pc : Int) := tmp_of (show a1.tmps.getD 88 undef = _ from hE ⟨11, .data⟩ (by simp) rfl)
              have hK0 := Lib.hid hK
              clear hK hE hF hR hJ hsz
              unfold Oper.wp
              go_simp
              exact hK0.out (.bool true) _ (fun _ => Nx.refl _) (fun h => by cases h) (upd_same _ _ _) (fun h => by cases h)
            · obtain rfl := Option.some.inj ho
              refine Or.inl ⟨wanted_none rfl, ?_⟩
              have e84 : a1.tmps[84]?.getD undef = .bool true := tmp_of (show a1.tmps.getD 84 undef = _ from hE ⟨7, .data⟩ (by simp) rfl)
              have e89 : a1.tmps[89]?.getD undef = .bool true := tmp_of (show a1.tmps.getD 89 undef = _ from hE ⟨12, .data⟩ (by simp) rfl)
              have hK0 := Lib.hid hK
              clear hK hE hF hR hJ hsz
              unfold Oper.wp
              go_simp
              exact hK0.out (.bool true) _ (fun _ => Nx.refl _) (fun h => by cases h) (upd_same _ _ _) (fun h => by cases h)
            · obtain rfl := Option.some.inj ho
              refine Or.inl ⟨wanted_none rfl, ?_⟩
              have e90 : a1.tmps[90]?.getD undef = .bool true := tmp_of (show a1.tmps.getD 90 undef = _ from hE ⟨13, .data⟩ (by simp) rfl)
              have hK0 := Lib.hid hK
              clear hK hE hF hR hJ hsz
              unfold Oper.wp
              go_simp
              exact hK0.out (.bool true) _ (fun _ => Nx.refl _) (fun h => by cases h) (upd_same _ _ _) (fun h => by cases h)
            · cases ho
          · intro a1 w1 hF hJ hR hP
            have f6 : a1.tmps[6]?.getD undef = .bool true := tmp_of (show a1.tmps.getD 6 undef = _ from hP 14 (by decide))
            have fd : a1.defers = [] := hF.1
            have hn := N3.out.trans (KW.out.trans hR)
            clear hF hJ hR hP
            go_wp2
            try simp only [Exit.inBlock, Exit.then]
            refine bodyPost_ret (by simp [results, Try.results6, go_sem, f6]; try rfl) fd ?_
            exact ⟨rfl, hn⟩
theorem law6_iso (code : List In4) (m : Nat) (hl : code.length = m) (inp y1 y2 y3 : List Bool) (Ac Ai A1 A2 A3 : Option Addr) (cc ni ci m1 c1 m2 c2 m3 c3 : Nat) (w : World)
    (hc : RdC w Ac code) (hcn : Ac = none → cc = 0) (hi : Im w Ai ni ci inp) (h1 : Im w A1 m1 c1 y1) (h2 : Im w A2 m2 c2 y2) (h3 : Im w A3 m3 c3 y3) :
    Calls Try.prog 6 #[.slice Ac m cc, .slice Ai ni ci, .agg #[.slice A1 m1 c1, .slice A2 m2 c2, .slice A3 m3 c3]] w fun e w' => e = .returned (.bool true) ∧ Nx w w' := by
  subst hl
  by_cases h : sm6 code.length ni m1 m2 m3
  · exact law6_iso_small code inp y1 y2 y3 Ac Ai A1 A2 A3 cc ni ci m1 c1 m2 c2 m3 c3 h w hc hcn hi h1 h2 h3
  · exact law6_iso_big Ac Ai A1 A2 A3 code.length cc ni ci m1 c1 m2 c2 m3 c3 h w
end Go.Proofs.Ytmijfipggggdfaa
