/- What New of the program's machine does. What an instruction's method does, whatever the opcode; what the machine does for one instruction. What the machine does for one instruction. What the machine does for one instruction, whatever its opcode; what Step does. What Step of the program's machine does, and what its other methods return; the nil machine. What Run of the program's machine does. Conditions: as each theorem states them. -/
import Derived.Test.YtdpccnpaajhliaaMI
import Derived.Test.YtdpccnpaajhliaaMC
import Derived.Test.YtdpccnpaajhliaaMD
import Derived.Test.YtdpccnpaajhliaaMH
namespace Go.Proofs.Ytdpccnpaajhliaa
section
open Go.RowKit

theorem OwS.nx {w w' : World} {B : Nat} {v : Value} {m1 m2 m3 : Nat} {x1 x2 x3 : List Bool} (h : OwS w B v m1 m2 m3 x1 x2 x3) (k : Nx w w') : OwS w' B v m1 m2 m3 x1 x2 x3 := by
  obtain ⟨g1, g2, g3, c1, c2, c3, rfl, h0, ⟨h1, e1⟩, ⟨h2, e2⟩, ⟨h3, e3⟩⟩ := h
  exact ⟨g1, g2, g3, c1, c2, c3, rfl, h0, ⟨h1.nx k, e1⟩, ⟨h2.nx k, e2⟩, ⟨h3.nx k, e3⟩⟩
theorem OwS.low {w : World} {B B' : Nat} {v : Value} {m1 m2 m3 : Nat} {x1 x2 x3 : List Bool} (h : OwS w B v m1 m2 m3 x1 x2 x3) (hb : B' ≤ B) : OwS w B' v m1 m2 m3 x1 x2 x3 := by
  obtain ⟨g1, g2, g3, c1, c2, c3, rfl, h0, ⟨h1, e1⟩, ⟨h2, e2⟩, ⟨h3, e3⟩⟩ := h
  exact ⟨g1, g2, g3, c1, c2, c3, rfl, h0, ⟨h1.low hb, e1⟩, ⟨h2.low hb, e2⟩, ⟨h3.low hb, e3⟩⟩
/-- The block of the third row of three. -/
def ebk : Value → Option Nat
  | .agg xs => (xs[2]?).bind Value.ownBlock
  | _ => none
/-- The input image's block and the edge history's are there, and two. -/
def JN (a : Act) (w : World) : Prop := (∀ g, (a.tmps.getD 17 undef).ownBlock = some g → g < w.heap.size) ∧ (∀ g, ebk (a.tmps.getD 19 undef) = some g → g < w.heap.size) ∧ ∀ g, (a.tmps.getD 17 undef).ownBlock = some g → ebk (a.tmps.getD 19 undef) ≠ some g
theorem JN.nx {a : Act} {w w' : World} (h : JN a w) (k : Nx w w') : JN a w' := ⟨fun g hg => Nat.lt_of_lt_of_le (h.1 g hg) k.size, fun g hg => Nat.lt_of_lt_of_le (h.2.1 g hg) k.size, h.2.2⟩
theorem JN.other {a : Act} {w w' : World} (h : JN a w) (k : Nx w w') (d : Nat) (v : Value) (h1 : d ≠ 17) (h2 : d ≠ 19) : JN (a.put (some d) v) w' := by
  unfold JN
  rw [getD_put a v h1, getD_put a v h2]
  exact h.nx k
theorem JN.put17 {a : Act} {w w' : World} (h : JN a w) (k : Nx w w') (v : Value) (hs : 17 < a.tmps.size) (hv : ∀ g, v.ownBlock = some g → w.heap.size ≤ g ∧ g < w'.heap.size) : JN (a.put (some 17) v) w' := by
  unfold JN
  rw [getD_put_self a v hs, getD_put a v (by decide)]
  exact ⟨fun g hg => (hv g hg).2, (h.nx k).2.1, fun _ hg e => by have := h.2.1 _ e; have := (hv _ hg).1; omega⟩
theorem JN.put19 {a : Act} {w w' : World} (h : JN a w) (k : Nx w w') (v : Value) (hs : 19 < a.tmps.size) (hv : ∀ g, ebk v = some g → w.heap.size ≤ g ∧ g < w'.heap.size) : JN (a.put (some 19) v) w' := by
  unfold JN
  rw [getD_put_self a v hs, getD_put a v (by decide)]
  exact ⟨(h.nx k).1, fun g hg => (hv g hg).2, fun _ hg e => by have := h.1 _ hg; have := (hv _ e).1; omega⟩
theorem Ow.in17 {w : World} {B : Nat} {v : Value} {xs : List Bool} (h : Ow w B v xs) : ∀ g, v.ownBlock = some g → B ≤ g ∧ g < w.heap.size := fun _ hg => ⟨(own_ty h hg).2, (own_ty h hg).1.lt⟩
theorem OwS.in19 {w : World} {B : Nat} {v : Value} {m1 m2 m3 : Nat} {x1 x2 x3 : List Bool} (h : OwS w B v m1 m2 m3 x1 x2 x3) : ∀ g, ebk v = some g → B ≤ g ∧ g < w.heap.size := fun g hg => by
  obtain ⟨g1, g2, g3, c1, c2, c3, rfl, _, _, _, ⟨h3, _⟩⟩ := h
  obtain rfl : g3 = g := by simpa [ebk, Value.ownBlock] using hg
  exact ⟨h3.base_le, h3.ty.lt⟩

/-- The machine's cells before its table is made. -/
def p0 (vc vi : Value) (gq gm ge cq cm ce : Nat) (s : Mc) (sb : Nat) : List Value :=
  [vc, vi, .slice (some ⟨gq, 0, none⟩) s.q.length cq, .slice (some ⟨gm, 0, none⟩) s.m.length cm, .slice (some ⟨ge, 0, none⟩) s.e.length ce, .int .i64 0, .bool false, .pointer (some ⟨sb, 0, none⟩), .map none, .int .i64 0, .bool false, .int .i64 0]
def PN (w : World) (base sb : Nat) (x1 x2 x3 : List Bool) (code : List In4) (inp : List Bool) (vs : List Value) : Prop :=
  ∃ vc vi gq gm ge cq cm ce, vs = p0 vc vi gq gm ge cq cm ce (mc0 x1 x2 x3) sb ∧ (OwC w base vc code ∧ Ow w base vi inp) ∧ (OwB w base gq cq x1 ∧ OwB w base gm cm x2 ∧ OwB w base ge ce x3) ∧ (gq ≠ ge ∧ gm ≠ ge ∧ vi.ownBlock ≠ some ge)
theorem PN.nx {w w' : World} {base sb : Nat} {x1 x2 x3 : List Bool} {code : List In4} {inp : List Bool} {vs : List Value} (h : PN w base sb x1 x2 x3 code inp vs) (k : Nx w w') : PN w' base sb x1 x2 x3 code inp vs := by
  obtain ⟨vc, vi, gq, gm, ge, cq, cm, ce, rfl, ⟨h1, h2⟩, ⟨h3, h4, h5⟩, h6⟩ := h
  exact ⟨vc, vi, gq, gm, ge, cq, cm, ce, rfl, ⟨h1.nx k, h2.nx k⟩, ⟨h3.nx k, h4.nx k, h5.nx k⟩, h6⟩
theorem PN.pm {w : World} {base b sb mb : Nat} {x1 x2 x3 : List Bool} {code : List In4} {inp : List Bool} {vs : List Value} (hb : Bx w b 66 vs) (hbb : base ≤ b) (h : PN w base sb x1 x2 x3 code inp vs) (hS : Stk w 82 4 base sb none 64 0 [])
    (hm : w.heap[mb]? = some (.map (mts b) 17)) (hmb : base ≤ mb) : ∃ ge, PM (w.setCell ⟨b, 8, none⟩ (.map (some mb))) base b sb none ge 0 code inp (mc0 x1 x2 x3) := by
  obtain ⟨vc, vi, gq, gm, ge, cq, cm, ce, rfl, ⟨hc, hi⟩, ⟨hq, hm', he⟩, n1, n2, hne⟩ := h
  refine ⟨ge, ?_⟩
  have k : ∀ j, j ≠ b → (w.setCell ⟨b, 8, none⟩ (.map (some mb))).heap[j]? = w.heap[j]? := fun j hj => Deep.blk_setCell_other w _ _ j hj
  have kt : ∀ j T, Ty w j T → T ≠ 66 → (w.setCell ⟨b, 8, none⟩ (.map (some mb))).heap[j]? = w.heap[j]? := fun j T ht hn => k j (ht.ne hb.ty hn)
  have ko : ∀ (g c : Nat) (xs : List Bool), OwB w base g c xs → OwB (w.setCell ⟨b, 8, none⟩ (.map (some mb))) base g c xs := fun g c xs ho => own_of ho fun g' hg' _ => by
    obtain rfl : g = g' := by simpa [Value.ownBlock] using hg'
    exact kt _ _ ho.ty (by decide)
  refine ⟨vc, vi, gq, gm, cq, cm, ce, mb, 0, hb.put 8 _, ⟨hbb, hmb⟩, ⟨own_of hc fun g hg _ => ?_, own_of hi fun g hg _ => ?_⟩, ⟨ko _ _ _ hq, ko _ _ _ hm', ko _ _ _ he⟩, hS.kept fun j hj e => ?_, ?_, ⟨n1, n2, hne, by simp⟩, ⟨by simp, by simp, fun j e => by cases e⟩⟩
  · exact kt _ _ (own_ty hc hg).1 (by decide)
  · exact kt _ _ (own_ty hi hg).1 (by decide)
  · rcases e with rfl | e
    · exact kt _ _ hS.ty (by decide)
    · cases e
  · exact (k mb (fun e => by subst e; have e := Option.some.inj (hm.symm.trans hb); cases e)).trans hm
/-- What New does. -/
def NewPM (code : List In4) (inp x1 x2 x3 : List Bool) (w : World) (e : Ending) (w' : World) : Prop :=
  ∃ b sb ge, e = .returned (.pointer (some ⟨b, 0, none⟩)) ∧ PM w' w.heap.size b sb none ge 0 code inp (mc0 x1 x2 x3) ∧ Nx w w'
def psiP' (B sb : Nat) (Ac Ai A1 A2 A3 : Option Addr) (cc ni ci m1 c1 m2 c2 m3 c3 : Nat) (code : List In4) (inp x1 x2 x3 : List Bool) (j : Nat) (v : Value) (w : World) : Prop := match j with
  | 0 => v = .slice Ac code.length cc
  | 1 => OwC w B v code
  | 2 => v = .slice Ai ni ci
  | 3 => Ow w B v inp
  | 4 => v = .agg #[.slice A1 m1 c1, .slice A2 m2 c2, .slice A3 m3 c3]
  | 5 => OwS w B v m1 m2 m3 x1 x2 x3
  | 6 => v = .pointer (some ⟨sb, 0, none⟩)
  | 7 => ∃ vs : List Value, v = .agg vs.toArray ∧ PN w B sb x1 x2 x3 code inp vs
  | 8 => ∃ b vs, v = .pointer (some ⟨b, 0, none⟩) ∧ B ≤ b ∧ Bx w b 66 vs ∧ PN w B sb x1 x2 x3 code inp vs
  | 9 => ∃ b vs, v = .pointer (some ⟨b, 0, none⟩) ∧ B ≤ b ∧ Bx w b 66 vs ∧ PN w B sb x1 x2 x3 code inp vs
  | _ => False

set_option maxHeartbeats 3200000 in
set_option maxRecDepth 100000 in
theorem vmNew_any (code : List In4) (inp x1 x2 x3 : List Bool) (hcl : code.length ≤ 1000000) (Ac Ai A1 A2 A3 : Option Addr) (cc ni ci m1 c1 m2 c2 m3 c3 : Nat) (hni : ni ≤ 1000000) (hm1 : m1 ≤ 1000000) (hm2 : m2 ≤ 1000000) (hm3 : m3 ≤ 1000000) (w : World)
    (hc : RdC w Ac code) (hcn : Ac = none → cc = 0) (hi : Im w Ai ni ci inp) (h1 : Im w A1 m1 c1 x1) (h2 : Im w A2 m2 c2 x2) (h3 : Im w A3 m3 c3 x3) :
    Calls Try.prog 10 #[.slice Ac code.length cc, .slice Ai ni ci, .agg #[.slice A1 m1 c1, .slice A2 m2 c2, .slice A3 m3 c3]] w (NewPM code inp x1 x2 x3 w) := by
  unfold NewPM
  have C0 := Lib.hid hc
  have I0 := Lib.hid hi
  have I1 := Lib.hid h1
  have I2 := Lib.hid h2
  have I3 := Lib.hid h3
  have HL := Lib.hid hcl
  have HC := Lib.hid hcn
  clear hc hi h1 h2 h3 hcl hcn
  have N0 := Lib.hid (Nx.one w (.cells #[.slice A1 m1 c1, .slice A2 m2 c2, .slice A3 m3 c3] 31))
  have XS := Lib.hid (bx_new w 31 [.slice A1 m1 c1, .slice A2 m2 c2, .slice A3 m3 c3])
  go_enter Try.func10, Try.ntmps10
  go_wp2_with fail
  refine (new_ok_b 64 (by decide) (by decide) _).mono ?_
  rintro e w1 ⟨rfl, hS, hn, hz⟩
  have N1 := Lib.hid (N0.out.trans hn)
  have S1 := Lib.hid (hS.low (show w.heap.size ≤ _ from N0.out.size))
  have XS1 := Lib.hid (XS.out.nx hn)
  generalize (w.alloc (.cells #[.slice A1 m1 c1, .slice A2 m2 c2, .slice A3 m3 c3] 31)).heap.size = sb at *
  have hgS : w.heap.size < w1.heap.size := XS1.out.lt
  have HGS := Lib.hid hgS
  clear hS hn hz XS N0 hgS
  go_wp2_with fail
  go_cut [9] (fun c wx => ∃ b vs, c = .pointer (some ⟨b, 0, none⟩) ∧ (w.heap.size ≤ b ∧ Bx wx b 66 vs ∧ PN wx w.heap.size sb x1 x2 x3 code inp vs) ∧ Nx w1 wx)
  case first =>
    refine wp_region_J (by kernel_rfl) (by kernel_rfl) (by kernel_rfl) JN (psiP' w.heap.size sb Ac Ai A1 A2 A3 cc ni ci m1 c1 m2 c2 m3 c3 code inp x1 x2 x3) ?_ (fun _ _ _ k h => h.nx k) ?_ ?_ ?_
    · intro j v u u' k hp
      unfold psiP' at hp ⊢
      split at hp
      case h_2 => exact hp.nx k
      case h_4 => exact Ow.nx hp k
      case h_6 => exact OwS.nx hp k
      case h_8 => obtain ⟨vs, e, hq⟩ := hp; exact ⟨vs, e, hq.nx k⟩
      case h_9 => obtain ⟨b, vs, e, hb, hx, hq⟩ := hp; exact ⟨b, vs, e, hb, hx.nx k, hq.nx k⟩
      case h_10 => obtain ⟨b, vs, e, hb, hx, hq⟩ := hp; exact ⟨b, vs, e, hb, hx.nx k, hq.nx k⟩
      all_goals exact hp
    · exact ⟨fun g hg => absurd (show (none : Option Nat) = some g from hg) (by simp), fun g hg => absurd (show (none : Option Nat) = some g from hg) (by simp), fun g hg => absurd (show (none : Option Nat) = some g from hg) (by simp)⟩
    · intro i o ho a1 w2 K hF hJ hR hE hK
      have f0 : a1.tmps[0]?.getD undef = .slice Ac code.length cc := tmp_of (hF.2.2 0 (by kernel_rfl))
      have f1 : a1.tmps[1]?.getD undef = .slice Ai ni ci := tmp_of (hF.2.2 1 (by kernel_rfl))
      have f5 : a1.tmps[5]?.getD undef = .pointer (some ⟨w.heap.size, 0, none⟩) := tmp_of (hF.2.2 5 (by kernel_rfl))
      have f7 : a1.tmps[7]?.getD undef = .pointer (some ⟨sb, 0, none⟩) := tmp_of (hF.2.2 7 (by kernel_rfl))
      have HZ17 := Lib.hid (show 17 < a1.tmps.size by rw [hF.2.1]; exact (by simp))
      have HZ19 := Lib.hid (show 19 < a1.tmps.size by rw [hF.2.1]; exact (by simp))
      have XS2 := XS1.out.nx hR
      have s0 := XS2.cell 0 rfl
      have s1 := XS2.cell 1 rfl
      have s2 := XS2.cell 2 rfl
      have hNW := N1.out.trans hR
      have hsz := hNW.size
      have hJ0 := Lib.hid hJ
      rcases i with _ | _ | _ | _ | _ | _ | _ | _ | _ | _ | i
      · obtain rfl := Option.some.inj ho
        have hK0 := Lib.hid hK
        clear hK hE hF hR hJ
        unfold Oper.wp
        go_simp
        exact hK0.out _ _ (Nx.refl _) (hJ0.out.other (Nx.refl _) 14 _ (by decide) (by decide)) rfl (fun h => by cases h)
      · obtain rfl := Option.some.inj ho
        have e14 : a1.tmps[14]?.getD undef = .slice Ac code.length cc := tmp_of (show a1.tmps.getD 14 undef = _ from hE ⟨0, .data⟩ (by simp) rfl)
        have CL := Lib.hid (cloneC_any w2 (C0.out.nx hNW) HC.out HL.out)
        have hK0 := Lib.hid hK
        clear hK hE hF hR hJ
        unfold Oper.wp
        go_simp
        refine CL.out.mono ?_
        rintro e w3 ⟨v, rfl, hv, hn⟩
        exact hK0.out v w3 hn (hJ0.out.other hn 15 _ (by decide) (by decide)) (own_lowC hv hsz) (fun h => by cases h)
      · obtain rfl := Option.some.inj ho
        have hK0 := Lib.hid hK
        clear hK hE hF hR hJ
        unfold Oper.wp
        go_simp
        exact hK0.out _ _ (Nx.refl _) (hJ0.out.other (Nx.refl _) 16 _ (by decide) (by decide)) rfl (fun h => by cases h)
      · obtain rfl := Option.some.inj ho
        have e16 : a1.tmps[16]?.getD undef = .slice Ai ni ci := tmp_of (show a1.tmps.getD 16 undef = _ from hE ⟨2, .data⟩ (by simp) rfl)
        have CL := Lib.hid (cloneB_any w2 (I0.out.nx hNW) hni)
        have hK0 := Lib.hid hK
        clear hK hE hF hR hJ
        unfold Oper.wp
        go_simp
        refine CL.out.mono ?_
        rintro e w3 ⟨v, rfl, hv, hn⟩
        exact hK0.out v w3 hn (hJ0.out.put17 hn v HZ17.out hv.in17) (own_low hv hsz) (fun h => by cases h)
      · obtain rfl := Option.some.inj ho
        have hK0 := Lib.hid hK
        clear hK hE hF hR hJ
        unfold Oper.wp
        go_simp
        exact hK0.out _ _ (Nx.refl _) (hJ0.out.other (Nx.refl _) 18 _ (by decide) (by decide)) rfl (fun h => by cases h)
      · obtain rfl := Option.some.inj ho
        have e18 : a1.tmps[18]?.getD undef = .agg #[.slice A1 m1 c1, .slice A2 m2 c2, .slice A3 m3 c3] := tmp_of (show a1.tmps.getD 18 undef = _ from hE ⟨4, .data⟩ (by simp) rfl)
        have CL := Lib.hid (clone_ok A1 A2 A3 m1 m2 m3 c1 c2 c3 x1 x2 x3 hm1 hm2 hm3 w2 (I1.out.nx hNW) (I2.out.nx hNW) (I3.out.nx hNW))
        have hK0 := Lib.hid hK
        clear hK hE hF hR hJ
        unfold Oper.wp
        go_simp
        refine CL.out.mono ?_
        rintro e w3 ⟨v, rfl, hv, hn⟩
        exact hK0.out v w3 hn (hJ0.out.put19 hn v HZ19.out hv.in19) (hv.low hsz) (fun h => by cases h)
      · obtain rfl := Option.some.inj ho
        have hK0 := Lib.hid hK
        clear hK hE hF hR hJ
        unfold Oper.wp
        go_simp
        exact hK0.out _ _ (Nx.refl _) (hJ0.out.other (Nx.refl _) 20 _ (by decide) (by decide)) rfl (fun h => by cases h)
      · obtain rfl := Option.some.inj ho
        obtain ⟨vc, ec⟩ : ∃ v, a1.tmps.getD 15 undef = v := ⟨_, rfl⟩
        obtain ⟨vi, ei⟩ : ∃ v, a1.tmps.getD 17 undef = v := ⟨_, rfl⟩
        have r1 : OwC w2 w.heap.size vc code := ec ▸ (show OwC w2 w.heap.size (a1.tmps.getD 15 undef) code from hE ⟨1, .data⟩ (by simp) rfl)
        have r2 : Ow w2 w.heap.size vi inp := ei ▸ (show Ow w2 w.heap.size (a1.tmps.getD 17 undef) inp from hE ⟨3, .data⟩ (by simp) rfl)
        obtain ⟨g1, g2, g3, d1, d2, d3, es, ⟨l1, l2⟩, ⟨i1, l3⟩, ⟨i2, l4⟩, ⟨i3, l5⟩⟩ := (show OwS w2 w.heap.size (a1.tmps.getD 19 undef) m1 m2 m3 x1 x2 x3 from hE ⟨5, .data⟩ (by simp) rfl)
        have ep : a1.tmps[20]?.getD undef = .pointer (some ⟨sb, 0, none⟩) := tmp_of (show a1.tmps.getD 20 undef = _ from hE ⟨6, .data⟩ (by simp) rfl)
        have hne : vi.ownBlock ≠ some g3 := fun hg => hJ.2.2 g3 (by rw [ei]; exact hg) (by rw [es]; rfl)
        subst l3 l4 l5
        have q15 := tmp_of ec
        have q17 := tmp_of ei
        have q19 := tmp_of es
        have R := Lib.hid (show PN w2 w.heap.size sb x1 x2 x3 code inp (p0 vc vi g1 g2 g3 d1 d2 d3 (mc0 x1 x2 x3) sb) from ⟨vc, vi, g1, g2, g3, d1, d2, d3, rfl, ⟨r1, r2⟩, ⟨i1, i2, i3⟩, by omega, by omega, hne⟩)
        obtain ⟨A1', c1', rfl, _⟩ := r1.rd
        obtain ⟨A2', c2', rfl, _⟩ := r2.im
        have hK0 := Lib.hid hK
        clear hK hE hF hR hJ r2 i1 i2 i3 hne ec ei es
        unfold Oper.wp
        go_simp
        exact hK0.out _ _ (Nx.refl _) (hJ0.out.other (Nx.refl _) 21 _ (by decide) (by decide)) ⟨_, rfl, R.out⟩ (fun h => by cases h)
      · obtain rfl := Option.some.inj ho
        obtain ⟨vs, e1, r⟩ : ∃ vs : List Value, a1.tmps.getD 21 undef = .agg vs.toArray ∧ PN w2 w.heap.size sb x1 x2 x3 code inp vs := hE ⟨7, .data⟩ (by simp) rfl
        have r' := r
        obtain ⟨vc, vi, g1, g2, g3, d1, d2, d3, rfl, _⟩ := r'
        have q21 := tmp_of e1
        have R := Lib.hid (show Bx (w2.alloc (.cells (p0 vc vi g1 g2 g3 d1 d2 d3 (mc0 x1 x2 x3) sb).toArray 66)) w2.heap.size 66 (p0 vc vi g1 g2 g3 d1 d2 d3 (mc0 x1 x2 x3) sb) ∧ PN (w2.alloc (.cells (p0 vc vi g1 g2 g3 d1 d2 d3 (mc0 x1 x2 x3) sb).toArray 66)) w.heap.size sb x1 x2 x3 code inp (p0 vc vi g1 g2 g3 d1 d2 d3 (mc0 x1 x2 x3) sb) from
          ⟨bx_new _ _ _, r.nx (Nx.one _ _)⟩)
        have hK0 := Lib.hid hK
        clear hK hE hF hR hJ r e1
        unfold p0 mc0 at q21 R
        unfold Oper.wp
        go_simp
        exact hK0.out _ _ (Nx.one _ _) (hJ0.out.other (Nx.one _ _) 22 _ (by decide) (by decide)) ⟨_, _, rfl, hsz, R.out.1, R.out.2⟩ (fun h => by cases h)
      · obtain rfl := Option.some.inj ho
        obtain ⟨b, vs, e1, hb, hx, hq⟩ : ∃ b vs, a1.tmps.getD 22 undef = .pointer (some ⟨b, 0, none⟩) ∧ w.heap.size ≤ b ∧ Bx w2 b 66 vs ∧ PN w2 w.heap.size sb x1 x2 x3 code inp vs := hE ⟨8, .data⟩ (by simp) rfl
        have q22 := tmp_of e1
        have R := Lib.hid (And.intro hx hq)
        have hK0 := Lib.hid hK
        clear hK hE hF hR hJ hx hq e1
        unfold Oper.wp
        go_simp
        exact hK0.out _ _ (Nx.refl _) (hJ0.out.other (Nx.refl _) 9 _ (by decide) (by decide)) ⟨_, _, rfl, hb, R.out.1, R.out.2⟩ (fun h => by cases h)
      · cases ho
    · intro a1 w2 hF hJ hR hP
      obtain ⟨b, vs, e1, hb, hx, hq⟩ : ∃ b vs, view _ a1 9 = .pointer (some ⟨b, 0, none⟩) ∧ w.heap.size ≤ b ∧ Bx w2 b 66 vs ∧ PN w2 w.heap.size sb x1 x2 x3 code inp vs := hP 9 (by decide)
      rw [hF.eq (by kernel_rfl)]
      generalize view _ a1 = vv at e1 ⊢
      clear hP hF hJ
      simp only [putN, Act.put, List.size_toArray, List.length_cons, List.length_nil, Nat.reduceAdd, List.getElem?_toArray, List.getElem?_cons_zero, List.getElem?_cons_succ, Option.bind_some, List.setIfInBounds_toArray, List.set_cons_zero, List.set_cons_succ]
      go_wp2_with fail
      go_meet
      exact ⟨b, vs, e1, ⟨hb, hx, hq⟩, hR⟩
  case rest =>
    obtain ⟨b, vs, rfl, ⟨hb, hx, hq⟩, hn⟩ := hcut
    have N2 := Lib.hid (N1.out.trans hn)
    have S2 := Lib.hid (S1.out.nx hn)
    have HX := Lib.hid hx
    have HQ := Lib.hid hq
    have HB := Lib.hid hb
    clear hn hx hq S1 N1 XS1 hb
    go_wp2_with fail
    refine (vmDispatch_any b _).mono ?_
    rintro e w3 ⟨rfl, hm, hn⟩
    obtain ⟨ge, hpm⟩ := PN.pm (HX.out.nx hn) HB.out (HQ.out.nx hn) (S2.out.nx hn) hm N2.out.size
    have P3 := Lib.hid hpm
    have N3 := Lib.hid (Nx.set (N2.out.trans hn) HB.out (i := 8) (o := none) (.map (some wc.heap.size)))
    have hx3 := HX.out.nx hn
    obtain ⟨vc, vi, g1, g2, g3, d1, d2, d3, hvs, _⟩ := HQ.out
    rw [hvs] at hx3
    have c8 : w3.cell? ⟨b, 8, none⟩ = some (.map none) := hx3.cell 8 rfl
    have f8 := hx3.frozen 8
    clear hm hn hx3 hvs hpm
    go_wp2
    go_ret
    exact ⟨b, sb, ge, rfl, P3.out, N3.out⟩
end
section
open Go.RowKit

/-- What a method of an instruction does: it faults and leaves all as it was, or it does what the instruction asks. -/
def MdX (base b sb : Nat) (o : Option Nat) (ge : Nat) (code : List In4) (inp : List Bool) (s : Mc) (x : In4) (w : World) (e : Ending) (w' : World) : Prop :=
  (insE inp code.length s x ≠ 0 → MdNo (insE inp code.length s x) w e w') ∧ (insE inp code.length s x = 0 → MdOk base b sb o ge (insP s x : Int) code inp (insD inp s x) w e w')
theorem mdx_ok {base b sb : Nat} {o : Option Nat} {ge : Nat} {code : List In4} {inp : List Bool} {s sN : Mc} {x : In4} {nN : Int} {w : World} (hE : insE inp code.length s x = 0) (hp : nN = (insP s x : Int)) (hs : insD inp s x = sN) {e : Ending} {w' : World}
    (h : MdOk base b sb o ge nN code inp sN w e w') : MdX base b sb o ge code inp s x w e w' := ⟨fun h0 => absurd hE h0, fun _ => by rw [hs, ← hp]; exact h⟩
theorem mdx_no {base b sb : Nat} {o : Option Nat} {ge : Nat} {code : List In4} {inp : List Bool} {s : Mc} {x : In4} {E : Int} {w : World} (hE : insE inp code.length s x = E) (h0 : E ≠ 0) {e : Ending} {w' : World}
    (h : MdNo E w e w') : MdX base b sb o ge code inp s x w e w' := ⟨fun _ => by rw [hE]; exact h, fun hz => absurd (hE ▸ hz) h0⟩

/-- What the method numbered f does for the instruction x. -/
def Mth (f : Nat) (base b sb : Nat) (o : Option Nat) (ge : Nat) (code : List In4) (inp : List Bool) (s : Mc) (x : In4) : Prop :=
  ∀ w, PM w base b sb o ge ((s.pc : Int) + 1) code inp s → Calls Try.prog f #[.pointer (some ⟨b, 0, none⟩), .agg #[.int .i64 x.op, .int .i64 x.k, .int .i64 x.n, .int .i64 x.t]] w (MdX base b sb o ge code inp s x w)
section
variable (base b sb : Nat) (o : Option Nat) (ge : Nat) (code : List In4) (inp : List Bool) (s : Mc) (k n t : Int)
theorem insP_one {s : Mc} {x : In4} (h1 : x.op ≠ 15) (h2 : x.op ≠ 16) : ((s.pc : Int) + 1) = (insP s x : Int) := by
  have : insP s x = s.pc + 1 := by unfold insP; rw [if_neg (by omega), if_neg (by omega)]
  rw [this]; omega
theorem mth0 : Mth 31 base b sb o ge code inp s ⟨0, k, n, t⟩ := fun w h => by
  have hE : insE inp code.length s ⟨0, k, n, t⟩ = bitE inp s ⟨0, k, n, t⟩ := if_pos (by simp)
  by_cases e0 : bitE inp s ⟨0, k, n, t⟩ = 0
  · exact (vmLg_ok_0 base b sb o ge _ code inp s 0 k n t w h e0).mono fun e w' hh => mdx_ok (hE.trans e0) (insP_one (by simp) (by simp)) (if_pos (by simp)) hh
  · exact (vmLg_no_0 base b sb o ge _ code inp s 0 k n t w h e0).mono fun e w' hh => mdx_no hE e0 hh
theorem mth1 : Mth 32 base b sb o ge code inp s ⟨1, k, n, t⟩ := fun w h => by
  have hE : insE inp code.length s ⟨1, k, n, t⟩ = bitE inp s ⟨1, k, n, t⟩ := if_pos (by simp)
  by_cases e0 : bitE inp s ⟨1, k, n, t⟩ = 0
  · exact (vmLg_ok_1 base b sb o ge _ code inp s 1 k n t w h e0).mono fun e w' hh => mdx_ok (hE.trans e0) (insP_one (by simp) (by simp)) (if_pos (by simp)) hh
  · exact (vmLg_no_1 base b sb o ge _ code inp s 1 k n t w h e0).mono fun e w' hh => mdx_no hE e0 hh
theorem mth2 : Mth 33 base b sb o ge code inp s ⟨2, k, n, t⟩ := fun w h => by
  have hE : insE inp code.length s ⟨2, k, n, t⟩ = bitE inp s ⟨2, k, n, t⟩ := if_pos (by simp)
  by_cases e0 : bitE inp s ⟨2, k, n, t⟩ = 0
  · exact (vmLg_ok_2 base b sb o ge _ code inp s 2 k n t w h e0).mono fun e w' hh => mdx_ok (hE.trans e0) (insP_one (by simp) (by simp)) (if_pos (by simp)) hh
  · exact (vmLg_no_2 base b sb o ge _ code inp s 2 k n t w h e0).mono fun e w' hh => mdx_no hE e0 hh
theorem mth3 : Mth 34 base b sb o ge code inp s ⟨3, k, n, t⟩ := fun w h => by
  have hE : insE inp code.length s ⟨3, k, n, t⟩ = bitE inp s ⟨3, k, n, t⟩ := if_pos (by simp)
  by_cases e0 : bitE inp s ⟨3, k, n, t⟩ = 0
  · exact (vmLg_ok_3 base b sb o ge _ code inp s 3 k n t w h e0).mono fun e w' hh => mdx_ok (hE.trans e0) (insP_one (by simp) (by simp)) (if_pos (by simp)) hh
  · exact (vmLg_no_3 base b sb o ge _ code inp s 3 k n t w h e0).mono fun e w' hh => mdx_no hE e0 hh
theorem mth4 : Mth 35 base b sb o ge code inp s ⟨4, k, n, t⟩ := fun w h => by
  have hE : insE inp code.length s ⟨4, k, n, t⟩ = bitE inp s ⟨4, k, n, t⟩ := if_pos (by simp)
  by_cases e0 : bitE inp s ⟨4, k, n, t⟩ = 0
  · exact (vmLg_ok_4 base b sb o ge _ code inp s 4 k n t w h e0).mono fun e w' hh => mdx_ok (hE.trans e0) (insP_one (by simp) (by simp)) (if_pos (by simp)) hh
  · exact (vmLg_no_4 base b sb o ge _ code inp s 4 k n t w h e0).mono fun e w' hh => mdx_no hE e0 hh
theorem mth5 : Mth 36 base b sb o ge code inp s ⟨5, k, n, t⟩ := fun w h => by
  have hE : insE inp code.length s ⟨5, k, n, t⟩ = bitE inp s ⟨5, k, n, t⟩ := if_pos (by simp)
  by_cases e0 : bitE inp s ⟨5, k, n, t⟩ = 0
  · exact (vmLg_ok_5 base b sb o ge _ code inp s 5 k n t w h e0).mono fun e w' hh => mdx_ok (hE.trans e0) (insP_one (by simp) (by simp)) (if_pos (by simp)) hh
  · exact (vmLg_no_5 base b sb o ge _ code inp s 5 k n t w h e0).mono fun e w' hh => mdx_no hE e0 hh
theorem mth6 (hle : s.e.length ≤ 1000000) : Mth 37 base b sb o ge code inp s ⟨6, k, n, t⟩ := fun w h => by
  have hE : insE inp code.length s ⟨6, k, n, t⟩ = (if bitE inp s ⟨6, k, n, t⟩ ≠ 0 then bitE inp s ⟨6, k, n, t⟩ else if t < 0 ∨ (s.e.length : Int) ≤ t then 3 else 0) := by simp [insE]
  by_cases e0 : bitE inp s ⟨6, k, n, t⟩ = 0
  · rw [if_neg (by simpa using e0)] at hE
    by_cases hr : t < 0 ∨ (s.e.length : Int) ≤ t
    · rw [if_pos hr] at hE
      exact (vmEdge6_no b 6 k n t 3 (by decide) w (fun w' k' => vmSample_range base b sb o ge _ code inp s 6 k n t w' (h.nx k') e0 hr)).mono fun e w' hh => mdx_no hE (by decide) hh
    · rw [if_neg hr] at hE
      have ht : t = ((t.toNat : Nat) : Int) := by omega
      exact (vmEdge6_ok base b sb o ge _ code inp s 6 k n t t.toNat w h e0 ht (by omega) hle).mono fun e w' hh => mdx_ok hE (insP_one (by simp) (by simp)) (by simp [insD]) hh
  · rw [if_pos e0] at hE
    exact (vmEdge6_no b 6 k n t _ e0 w (fun w' k' => vmSample_no base b sb o ge _ code inp s 6 k n t w' (h.nx k') e0)).mono fun e w' hh => mdx_no hE e0 hh
theorem mth7 (hle : s.e.length ≤ 1000000) : Mth 38 base b sb o ge code inp s ⟨7, k, n, t⟩ := fun w h => by
  have hE : insE inp code.length s ⟨7, k, n, t⟩ = (if bitE inp s ⟨7, k, n, t⟩ ≠ 0 then bitE inp s ⟨7, k, n, t⟩ else if t < 0 ∨ (s.e.length : Int) ≤ t then 3 else 0) := by simp [insE]
  by_cases e0 : bitE inp s ⟨7, k, n, t⟩ = 0
  · rw [if_neg (by simpa using e0)] at hE
    by_cases hr : t < 0 ∨ (s.e.length : Int) ≤ t
    · rw [if_pos hr] at hE
      exact (vmEdge7_no b 7 k n t 3 (by decide) w (fun w' k' => vmSample_range base b sb o ge _ code inp s 7 k n t w' (h.nx k') e0 hr)).mono fun e w' hh => mdx_no hE (by decide) hh
    · rw [if_neg hr] at hE
      have ht : t = ((t.toNat : Nat) : Int) := by omega
      exact (vmEdge7_ok base b sb o ge _ code inp s 7 k n t t.toNat w h e0 ht (by omega) hle).mono fun e w' hh => mdx_ok hE (insP_one (by simp) (by simp)) (by simp [insD]) hh
  · rw [if_pos e0] at hE
    exact (vmEdge7_no b 7 k n t _ e0 w (fun w' k' => vmSample_no base b sb o ge _ code inp s 7 k n t w' (h.nx k') e0)).mono fun e w' hh => mdx_no hE e0 hh
theorem mth8 : Mth 39 base b sb o ge code inp s ⟨8, k, n, t⟩ := fun w h => by
  have hE : insE inp code.length s ⟨8, k, n, t⟩ = (if 64 ≤ s.stk.length then 10 else 0) := by simp [insE]
  by_cases hl : 64 ≤ s.stk.length
  · rw [if_pos hl] at hE
    exact (vmPush_no base b sb o ge _ code inp s 8 k n t w h hl).mono fun e w' hh => mdx_no hE (by decide) hh
  · rw [if_neg hl] at hE
    exact (vmPush_ok base b sb o ge _ code inp s 8 k n t w h (by omega)).mono fun e w' hh => mdx_ok hE (insP_one (by simp) (by simp)) (by simp [insD]) hh
theorem mth9 (hstk : s.stk.length ≤ 64) : Mth 40 base b sb o ge code inp s ⟨9, k, n, t⟩ := fun w h => by
  have hE : insE inp code.length s ⟨9, k, n, t⟩ = (if s.stk.length = 0 then 18 else 0) := by simp [insE]
  by_cases hl : s.stk.length = 0
  · rw [if_pos hl] at hE
    exact (vmPop9_no base b sb o ge _ code inp s 9 k n t w h hl).mono fun e w' hh => mdx_no hE (by decide) hh
  · rw [if_neg hl] at hE
    obtain ⟨xs, v, hs⟩ : ∃ xs v, s.stk = xs ++ [v] := ⟨s.stk.dropLast, s.stk.getLast (by intro e; rw [e] at hl; exact hl rfl), (List.dropLast_concat_getLast _).symm⟩
    exact (vmPop9_ok base b sb o ge _ code inp s 9 k n t xs v hs (by rw [hs] at hstk; simp at hstk; omega) w h).mono fun e w' hh => mdx_ok hE (insP_one (by simp) (by simp)) (by simp [insD, hs, List.getLastD_eq_getLast?]) hh
theorem mth10 (hstk : s.stk.length ≤ 64) : Mth 41 base b sb o ge code inp s ⟨10, k, n, t⟩ := fun w h => by
  have hE : insE inp code.length s ⟨10, k, n, t⟩ = (if s.stk.length = 0 then 18 else 0) := by simp [insE]
  by_cases hl : s.stk.length = 0
  · rw [if_pos hl] at hE
    exact (vmPop10_no base b sb o ge _ code inp s 10 k n t w h hl).mono fun e w' hh => mdx_no hE (by decide) hh
  · rw [if_neg hl] at hE
    obtain ⟨xs, v, hs⟩ : ∃ xs v, s.stk = xs ++ [v] := ⟨s.stk.dropLast, s.stk.getLast (by intro e; rw [e] at hl; exact hl rfl), (List.dropLast_concat_getLast _).symm⟩
    exact (vmPop10_ok base b sb o ge _ code inp s 10 k n t xs v hs (by rw [hs] at hstk; simp at hstk; omega) w h).mono fun e w' hh => mdx_ok hE (insP_one (by simp) (by simp)) (by simp [insD, hs, List.getLastD_eq_getLast?]) hh
theorem insE_coil {inp : List Bool} {len : Nat} {s : Mc} {x : In4} (h1 : 11 ≤ x.op) (h2 : x.op ≤ 14) : insE inp len s x = wrE s.q s.m x.k x.n := by
  unfold insE
  rw [if_neg (by omega), if_neg (by omega), if_neg (by omega), if_neg (by omega), if_pos (by omega)]
theorem mth11 (h1000 : s.q.length ≤ 1000000 ∧ s.m.length ≤ 1000000) : Mth 42 base b sb o ge code inp s ⟨11, k, n, t⟩ := fun w h => by
  have hE : insE inp code.length s ⟨11, k, n, t⟩ = wrE s.q s.m k n := insE_coil (by simp) (by simp)
  by_cases e0 : wrE s.q s.m k n = 0
  · exact (vmCoil11_ok base b sb o ge _ code inp s 11 k n t h1000 w h e0).mono fun e w' hh => mdx_ok (hE.trans e0) (insP_one (by simp) (by simp)) (by simp [insD]) hh
  · exact (vmCoil11_no base b sb o ge _ code inp s 11 k n t h1000 w h e0).mono fun e w' hh => mdx_no hE e0 hh
theorem mth12 (h1000 : s.q.length ≤ 1000000 ∧ s.m.length ≤ 1000000) : Mth 43 base b sb o ge code inp s ⟨12, k, n, t⟩ := fun w h => by
  have hE : insE inp code.length s ⟨12, k, n, t⟩ = wrE s.q s.m k n := insE_coil (by simp) (by simp)
  by_cases e0 : wrE s.q s.m k n = 0
  · exact (vmCoil12_ok base b sb o ge _ code inp s 12 k n t h1000 w h e0).mono fun e w' hh => mdx_ok (hE.trans e0) (insP_one (by simp) (by simp)) (by simp [insD]) hh
  · exact (vmCoil12_no base b sb o ge _ code inp s 12 k n t h1000 w h e0).mono fun e w' hh => mdx_no hE e0 hh
theorem mth13 (h1000 : s.q.length ≤ 1000000 ∧ s.m.length ≤ 1000000) : Mth 44 base b sb o ge code inp s ⟨13, k, n, t⟩ := fun w h => by
  have hE : insE inp code.length s ⟨13, k, n, t⟩ = wrE s.q s.m k n := insE_coil (by simp) (by simp)
  by_cases e0 : wrE s.q s.m k n = 0
  · exact (vmCoil13_ok base b sb o ge _ code inp s 13 k n t h1000 w h e0).mono fun e w' hh => mdx_ok (hE.trans e0) (insP_one (by simp) (by simp)) (by simp [insD]) hh
  · exact (vmCoil13_no base b sb o ge _ code inp s 13 k n t h1000 w h e0).mono fun e w' hh => mdx_no hE e0 hh
theorem mth14 (h1000 : s.q.length ≤ 1000000 ∧ s.m.length ≤ 1000000) : Mth 45 base b sb o ge code inp s ⟨14, k, n, t⟩ := fun w h => by
  have hE : insE inp code.length s ⟨14, k, n, t⟩ = wrE s.q s.m k n := insE_coil (by simp) (by simp)
  by_cases e0 : wrE s.q s.m k n = 0
  · exact (vmCoil14_ok base b sb o ge _ code inp s 14 k n t h1000 w h e0).mono fun e w' hh => mdx_ok (hE.trans e0) (insP_one (by simp) (by simp)) (by simp [insD]) hh
  · exact (vmCoil14_no base b sb o ge _ code inp s 14 k n t h1000 w h e0).mono fun e w' hh => mdx_no hE e0 hh
theorem mth15 : Mth 46 base b sb o ge code inp s ⟨15, k, n, t⟩ := fun w h => by
  have hE : insE inp code.length s ⟨15, k, n, t⟩ = (if t < 0 ∨ (code.length : Int) ≤ t then 3 else if t ≤ (s.pc : Int) then 17 else 0) := by simp [insE]
  by_cases ht : t < 0
  · rw [if_pos (.inl ht)] at hE
    exact (vmJump_neg base b sb o ge _ code inp s 15 k n t ht w h).mono fun e w' hh => mdx_no hE (by decide) hh
  by_cases hr : (code.length : Int) ≤ t
  · rw [if_pos (.inr hr)] at hE
    exact (vmJump_range base b sb o ge _ code inp s 15 k n t ht hr w h).mono fun e w' hh => mdx_no hE (by decide) hh
  rw [if_neg (by omega)] at hE
  by_cases ho : t ≤ (s.pc : Int)
  · rw [if_pos ho] at hE
    exact (vmJump_order base b sb o ge _ code inp s 15 k n t ht hr ho w h).mono fun e w' hh => mdx_no hE (by decide) hh
  rw [if_neg ho] at hE
  cases ha : s.acc with
  | true => exact (vmJump_yes base b sb o ge _ code inp s 15 k n t ht hr ho ha w h).mono fun e w' hh => mdx_ok hE (by simp [insP, ha]; omega) (by simp [insD]) hh
  | false => exact (vmJump_not base b sb o ge _ code inp s 15 k n t ht hr ho ha w h).mono fun e w' hh => mdx_ok hE (by simp [insP, ha]) (by simp [insD]) hh
theorem mth16 : Mth 47 base b sb o ge code inp s ⟨16, k, n, t⟩ := fun w h =>
  (vmEnd_ok base b sb o ge _ code inp s 16 k n t w h).mono fun e w' hh => mdx_ok (by simp [insE]) (by simp [insP]) (by simp [insD]) hh
end
end
section
open Go.RowKit

section
variable {w w' : World} {base b sb : Nat} {o : Option Nat} {ge : Nat} {nt : Int} {code : List In4} {inp : List Bool} {s : Mc}
theorem PM.table (h : PM w base b sb o ge nt code inp s) : ∃ mb, w.cell? ⟨b, 8, none⟩ = some (.map (some mb)) ∧ w.heap[mb]? = some (.map (mts b) 17) := by
  obtain ⟨vc, vi, gq, gm, cq, cm, ce, mb, md, hb, h1, h2, h3, h4, h5, _⟩ := h
  exact ⟨mb, hb.cell 8 rfl, h5⟩
end
theorem look_of {w : World} {b mb : Nat} (h : w.heap[mb]? = some (.map (mts b) 17)) (op : Int) (i : Nat) (v : Value) (hf : Instr.findNow (.int .i64) (.int .i64 op) (mts b).toList 0 = some (some (i, v))) :
    (Instr.lookup 64 (.map (some mb)) (.int .i64 op) true).run Try.prog w = .ok (.tuple #[v, .bool true]) w := by
  have hd : Try.prog.underlying 3 = some (.int .i64) := by kernel_rfl
  have hm : Try.prog.underlying 64 = some (.map 3 84) := by kernel_rfl
  have hc : (Instr.checkKey (mts b).isEmpty 10000 3 (.int .i64 op)).run Try.prog w = .ok () w := MapKept.run_checkKey (k := .int .i64 op) hd (by simp [MapKept.IsKey]) _ 9999
  simp [Instr.lookup, run_underlying hm, MapKept.run_getObj_map h, hc, MapKept.run_findKey hd hf, Result.andThen]
theorem look_no {w : World} {b mb : Nat} (h : w.heap[mb]? = some (.map (mts b) 17)) (op : Int) (hf : Instr.findNow (.int .i64) (.int .i64 op) (mts b).toList 0 = some none) :
    (Instr.lookup 64 (.map (some mb)) (.int .i64 op) true).run Try.prog w = .ok (.tuple #[.nilFunc, .bool false]) w := by
  have hd : Try.prog.underlying 3 = some (.int .i64) := by kernel_rfl
  have hm : Try.prog.underlying 64 = some (.map 3 84) := by kernel_rfl
  have hz : (zeroValue 84).run Try.prog w = .ok (.nilFunc) w := by kernel_rfl
  have hc : (Instr.checkKey (mts b).isEmpty 10000 3 (.int .i64 op)).run Try.prog w = .ok () w := MapKept.run_checkKey (k := .int .i64 op) hd (by simp [MapKept.IsKey]) _ 9999
  simp [Instr.lookup, run_underlying hm, MapKept.run_getObj_map h, hc, MapKept.run_findKey hd hf, Result.andThen, hz]

set_option maxHeartbeats 3200000 in
set_option maxRecDepth 100000 in
theorem vmExec_off (base b sb : Nat) (o : Option Nat) (ge : Nat) (nt : Int) (code : List In4) (inp : List Bool) (s : Mc) (hp : code.length ≤ s.pc) (w : World) (h : PM w base b sb o ge nt code inp s) :
    Calls Try.prog 24 #[.pointer (some ⟨b, 0, none⟩)] w (MdNo 5 w) := by
  unfold MdNo
  obtain ⟨A, c, c0, _⟩ := h.prog
  have c5 := h.cells.1
  have hp' : (code.length : Int) ≤ (s.pc : Int) := by omega
  clear h hp
  go_enter Try.func24, Try.ntmps24
  go_wp2_with fail
  go_quiet (fail)
  go_wp2
  go_ret
  exact ⟨rfl, (by repeat (first | exact Nx.refl _ | assumption | refine Nx.drewN ?_ _ | refine Nx.drew ?_ | refine Nx.alloc ?_ _ | refine Nx.set ?_ (by first | exact Nat.le_refl _ | (simp; done) | (simp; omega)) _))⟩

set_option maxHeartbeats 3200000 in
set_option maxRecDepth 100000 in
theorem vmExec_no (f : Nat) (base b sb : Nat) (o : Option Nat) (ge : Nat) (nt : Int) (code : List In4) (inp : List Bool) (s : Mc) (op k n t : Int) (hx : code[s.pc]? = some ⟨op, k, n, t⟩) (hpc : s.pc ≤ 1000000) (i : Nat)
    (hf : Instr.findNow (.int .i64) (.int .i64 op) (mts b).toList 0 = some (some (i, mth b f))) (w : World) (h : PM w base b sb o ge nt code inp s) (hcf : ∀ (args : Array Value) (w : World), (callFunc f args).run Try.prog w = .ok (.enter f args) w) (hM : Mth f base b sb o ge code inp s ⟨op, k, n, t⟩) (hE : insE inp code.length s ⟨op, k, n, t⟩ ≠ 0) :
    Calls Try.prog 24 #[.pointer (some ⟨b, 0, none⟩)] w (fun e w' => e = .returned (.int .i64 (insE inp code.length s ⟨op, k, n, t⟩)) ∧ (∃ nt', PM w' base b sb o ge nt' code inp s) ∧ Mp b sb o ge w w') := by
  obtain ⟨A, c, c0, hc⟩ := h.prog
  have c5 := h.cells.1
  obtain ⟨ad, rfl, k0, k1, k2, k3⟩ := hc.four _ _ hx
  have hlt : s.pc < code.length := (List.getElem?_eq_some_iff.1 hx).1
  have hp' : ¬ (code.length : Int) ≤ (s.pc : Int) := by omega
  have hp2 : (s.pc : Int) < (code.length : Int) := by omega
  simp only at k0 k1 k2 k3
  have NA := fun N => (((Nx.refl w).drewN N).alloc (.cells #[.int .i64 0, .int .i64 0, .int .i64 0, .int .i64 0] 28))
  have XA := fun N => (show Bx ((w.drewN N).alloc (.cells #[.int .i64 0, .int .i64 0, .int .i64 0, .int .i64 0] 28)) w.heap.size 28 [.int .i64 0, .int .i64 0, .int .i64 0, .int .i64 0] from bx_new (w.drewN N) _ _)
  have HW := Lib.hid (fun N => (show Nx w ((((((w.drewN N).alloc (.cells #[.int .i64 0, .int .i64 0, .int .i64 0, .int .i64 0] 28)).setCell ⟨w.heap.size, 0, none⟩ (.int .i64 op)).setCell ⟨w.heap.size, 1, none⟩ (.int .i64 k)).setCell ⟨w.heap.size, 2, none⟩ (.int .i64 n)).setCell ⟨w.heap.size, 3, none⟩ (.int .i64 t)) ∧ Bx ((((((w.drewN N).alloc (.cells #[.int .i64 0, .int .i64 0, .int .i64 0, .int .i64 0] 28)).setCell ⟨w.heap.size, 0, none⟩ (.int .i64 op)).setCell ⟨w.heap.size, 1, none⟩ (.int .i64 k)).setCell ⟨w.heap.size, 2, none⟩ (.int .i64 n)).setCell ⟨w.heap.size, 3, none⟩ (.int .i64 t)) w.heap.size 28 [.int .i64 op, .int .i64 k, .int .i64 n, .int .i64 t] from
    ⟨((((NA N).set (Nat.le_refl _) _).set (Nat.le_refl _) _).set (Nat.le_refl _) _).set (Nat.le_refl _) _, ((((XA N).put 0 _).put 1 _).put 2 _).put 3 _⟩))
  have a0 := fun N => (NA N).cell c0
  have a5 := fun N => (NA N).cell c5
  have ak0 := fun N => (NA N).cell k0
  have ak1 := fun N => (NA N).cell k1
  have ak2 := fun N => (NA N).cell k2
  have ak3 := fun N => (NA N).cell k3
  have n0 := fun N => (XA N).cell 0 rfl
  have n1 := fun N => (XA N).cell 1 rfl
  have n2 := fun N => (XA N).cell 2 rfl
  have n3 := fun N => (XA N).cell 3 rfl
  have m0 := fun N => (XA N).frozen 0
  have m1 := fun N => (XA N).frozen 1
  have m2 := fun N => (XA N).frozen 2
  have m3 := fun N => (XA N).frozen 3
  have HLB := Lib.hid h.lt
  have CL := Lib.hid (fun (w' : World) (k' : PM w' base b sb o ge ((s.pc : Int) + 1) code inp s) => (hM w' k').mono (fun e w2 (hh : MdX base b sb o ge code inp s ⟨op, k, n, t⟩ w' e w2) => (hh.1 hE)))
  unfold MdNo at CL
  have e0 : insE inp code.length s ⟨op, k, n, t⟩ ≠ 0 := hE
  simp only at CL
  generalize insE inp code.length s ⟨op, k, n, t⟩ = E at *
  clear hE hM
  have P := Lib.hid h
  have HFN := Lib.hid hf
  clear h hc hx NA XA hlt hf
  go_enter Try.func24, Try.ntmps24
  go_wp2_with fail
  go_quiet (fail)
  go_wp2_with fail
  go_region
  obtain ⟨nw, xw⟩ := HW.out (nq + 1)
  clear a0 a5 ak0 ak1 ak2 ak3 n0 n1 n2 n3 m0 m1 m2 m3 k0 k1 k2 k3 c0 c5 HW
  generalize (((((w.drewN (nq + 1)).alloc (.cells #[.int .i64 0, .int .i64 0, .int .i64 0, .int .i64 0] 28)).setCell ⟨w.heap.size, 0, none⟩ (.int .i64 op)).setCell ⟨w.heap.size, 1, none⟩ (.int .i64 k)).setCell ⟨w.heap.size, 2, none⟩ (.int .i64 n)).setCell ⟨w.heap.size, 3, none⟩ (.int .i64 t) = W at *
  have NW := Lib.hid nw
  have XW := Lib.hid xw
  have P2 := Lib.hid (P.out.nx nw)
  have x0 := xw.cell 0 rfl
  obtain ⟨mb, q8, qm⟩ := P2.out.table
  have lo0 := look_of qm op i _ HFN.out
  have loN := fun N => look_of (w := W.drewN N) qm op i _ HFN.out
  unfold mth at lo0 loN
  clear nw xw P
  go_wp2_with fail
  go_quiet (fail)
  have q5 := P2.out.cells.1
  have q9 := P2.out.cells.2.2.2.1
  have g9 := P2.out.frozen 9
  have P3 := Lib.hid (fun N => (P2.out.nx ((Nx.refl W).drewN N)).setNx ((s.pc : Int) + 1))
  have M3 := Lib.hid (fun N => (Mp.of_nx (NW.out.drewN N) b sb o ge).set 9 (.int .i64 ((s.pc : Int) + 1)))
  have X3 := fun N => (show Bx ((W.drewN N).setCell ⟨b, 9, none⟩ (.int .i64 ((s.pc : Int) + 1))) w.heap.size 28 [.int .i64 op, .int .i64 k, .int .i64 n, .int .i64 t] from (XW.out.nx ((Nx.refl W).drewN N)).far (fun e => by have := HLB.out; omega) _)
  have y0 := fun N => (X3 N).cell 0 rfl
  have y1 := fun N => (X3 N).cell 1 rfl
  have y2 := fun N => (X3 N).cell 2 rfl
  have y3 := fun N => (X3 N).cell 3 rfl
  clear X3 XW x0 lo0 loN
  go_wp2_with fail
  refine (CL.out _ (P3.out _)).mono ?_
  rintro e w3 ⟨rfl, hn⟩
  have F3 := Lib.hid (show (∃ nt', PM w3 base b sb o ge nt' code inp s) ∧ Mp b sb o ge w w3 from ⟨⟨_, (P3.out _).nx hn⟩, (M3.out _).nx hn⟩)
  clear hn y0 y1 y2 y3 q5 q9 g9 P3 M3
  go_wp2
  go_ret
  exact ⟨rfl, F3.out.1, F3.out.2⟩

set_option maxHeartbeats 3200000 in
set_option maxRecDepth 100000 in
theorem vmExec_ok (f : Nat) (base b sb : Nat) (o : Option Nat) (ge : Nat) (nt : Int) (code : List In4) (inp : List Bool) (s : Mc) (op k n t : Int) (hx : code[s.pc]? = some ⟨op, k, n, t⟩) (hpc : s.pc ≤ 1000000) (i : Nat)
    (hf : Instr.findNow (.int .i64) (.int .i64 op) (mts b).toList 0 = some (some (i, mth b f))) (w : World) (h : PM w base b sb o ge nt code inp s) (hcf : ∀ (args : Array Value) (w : World), (callFunc f args).run Try.prog w = .ok (.enter f args) w) (hM : Mth f base b sb o ge code inp s ⟨op, k, n, t⟩) (hE : insE inp code.length s ⟨op, k, n, t⟩ = 0) :
    Calls Try.prog 24 #[.pointer (some ⟨b, 0, none⟩)] w (fun e w' => e = .returned (.int .i64 0) ∧ ∃ o' nt', PM w' base b sb o' ge nt' code inp { insD inp s ⟨op, k, n, t⟩ with pc := insP s ⟨op, k, n, t⟩ } ∧ (o' = o ∨ ∀ j, o' = some j → w.heap.size ≤ j) ∧ Mp b sb o ge w w') := by
  obtain ⟨A, c, c0, hc⟩ := h.prog
  have c5 := h.cells.1
  obtain ⟨ad, rfl, k0, k1, k2, k3⟩ := hc.four _ _ hx
  have hlt : s.pc < code.length := (List.getElem?_eq_some_iff.1 hx).1
  have hp' : ¬ (code.length : Int) ≤ (s.pc : Int) := by omega
  have hp2 : (s.pc : Int) < (code.length : Int) := by omega
  simp only at k0 k1 k2 k3
  have NA := fun N => (((Nx.refl w).drewN N).alloc (.cells #[.int .i64 0, .int .i64 0, .int .i64 0, .int .i64 0] 28))
  have XA := fun N => (show Bx ((w.drewN N).alloc (.cells #[.int .i64 0, .int .i64 0, .int .i64 0, .int .i64 0] 28)) w.heap.size 28 [.int .i64 0, .int .i64 0, .int .i64 0, .int .i64 0] from bx_new (w.drewN N) _ _)
  have HW := Lib.hid (fun N => (show Nx w ((((((w.drewN N).alloc (.cells #[.int .i64 0, .int .i64 0, .int .i64 0, .int .i64 0] 28)).setCell ⟨w.heap.size, 0, none⟩ (.int .i64 op)).setCell ⟨w.heap.size, 1, none⟩ (.int .i64 k)).setCell ⟨w.heap.size, 2, none⟩ (.int .i64 n)).setCell ⟨w.heap.size, 3, none⟩ (.int .i64 t)) ∧ Bx ((((((w.drewN N).alloc (.cells #[.int .i64 0, .int .i64 0, .int .i64 0, .int .i64 0] 28)).setCell ⟨w.heap.size, 0, none⟩ (.int .i64 op)).setCell ⟨w.heap.size, 1, none⟩ (.int .i64 k)).setCell ⟨w.heap.size, 2, none⟩ (.int .i64 n)).setCell ⟨w.heap.size, 3, none⟩ (.int .i64 t)) w.heap.size 28 [.int .i64 op, .int .i64 k, .int .i64 n, .int .i64 t] from
    ⟨((((NA N).set (Nat.le_refl _) _).set (Nat.le_refl _) _).set (Nat.le_refl _) _).set (Nat.le_refl _) _, ((((XA N).put 0 _).put 1 _).put 2 _).put 3 _⟩))
  have a0 := fun N => (NA N).cell c0
  have a5 := fun N => (NA N).cell c5
  have ak0 := fun N => (NA N).cell k0
  have ak1 := fun N => (NA N).cell k1
  have ak2 := fun N => (NA N).cell k2
  have ak3 := fun N => (NA N).cell k3
  have n0 := fun N => (XA N).cell 0 rfl
  have n1 := fun N => (XA N).cell 1 rfl
  have n2 := fun N => (XA N).cell 2 rfl
  have n3 := fun N => (XA N).cell 3 rfl
  have m0 := fun N => (XA N).frozen 0
  have m1 := fun N => (XA N).frozen 1
  have m2 := fun N => (XA N).frozen 2
  have m3 := fun N => (XA N).frozen 3
  have HLB := Lib.hid h.lt
  have CL := Lib.hid (fun (w' : World) (k' : PM w' base b sb o ge ((s.pc : Int) + 1) code inp s) => (hM w' k').mono (fun e w2 (hh : MdX base b sb o ge code inp s ⟨op, k, n, t⟩ w' e w2) => (hh.2 hE)))
  unfold MdOk at CL
  simp only at CL
  generalize insP s ⟨op, k, n, t⟩ = nN at *
  generalize insD inp s ⟨op, k, n, t⟩ = sD at *
  clear hE hM
  have P := Lib.hid h
  have HFN := Lib.hid hf
  clear h hc hx NA XA hlt hf
  go_enter Try.func24, Try.ntmps24
  go_wp2_with fail
  go_quiet (fail)
  go_wp2_with fail
  go_region
  obtain ⟨nw, xw⟩ := HW.out (nq + 1)
  clear a0 a5 ak0 ak1 ak2 ak3 n0 n1 n2 n3 m0 m1 m2 m3 k0 k1 k2 k3 c0 c5 HW
  generalize (((((w.drewN (nq + 1)).alloc (.cells #[.int .i64 0, .int .i64 0, .int .i64 0, .int .i64 0] 28)).setCell ⟨w.heap.size, 0, none⟩ (.int .i64 op)).setCell ⟨w.heap.size, 1, none⟩ (.int .i64 k)).setCell ⟨w.heap.size, 2, none⟩ (.int .i64 n)).setCell ⟨w.heap.size, 3, none⟩ (.int .i64 t) = W at *
  have NW := Lib.hid nw
  have XW := Lib.hid xw
  have P2 := Lib.hid (P.out.nx nw)
  have x0 := xw.cell 0 rfl
  obtain ⟨mb, q8, qm⟩ := P2.out.table
  have lo0 := look_of qm op i _ HFN.out
  have loN := fun N => look_of (w := W.drewN N) qm op i _ HFN.out
  unfold mth at lo0 loN
  clear nw xw P
  go_wp2_with fail
  go_quiet (fail)
  have q5 := P2.out.cells.1
  have q9 := P2.out.cells.2.2.2.1
  have g9 := P2.out.frozen 9
  have P3 := Lib.hid (fun N => (P2.out.nx ((Nx.refl W).drewN N)).setNx ((s.pc : Int) + 1))
  have M3 := Lib.hid (fun N => (Mp.of_nx (NW.out.drewN N) b sb o ge).set 9 (.int .i64 ((s.pc : Int) + 1)))
  have X3 := fun N => (show Bx ((W.drewN N).setCell ⟨b, 9, none⟩ (.int .i64 ((s.pc : Int) + 1))) w.heap.size 28 [.int .i64 op, .int .i64 k, .int .i64 n, .int .i64 t] from (XW.out.nx ((Nx.refl W).drewN N)).far (fun e => by have := HLB.out; omega) _)
  have y0 := fun N => (X3 N).cell 0 rfl
  have y1 := fun N => (X3 N).cell 1 rfl
  have y2 := fun N => (X3 N).cell 2 rfl
  have y3 := fun N => (X3 N).cell 3 rfl
  clear X3 XW x0 lo0 loN
  go_wp2_with fail
  refine (CL.out _ (P3.out _)).mono ?_
  rintro e w3 ⟨rfl, o', hp, ho, hm⟩
  have P4 := Lib.hid hp
  have r5 := hp.cells.1
  have r9 := hp.cells.2.2.2.1
  have s5 := hp.frozen 5
  have M4 := Lib.hid ((M3.out _).trans hm (.inl rfl))
  have HO := Lib.hid ho
  have HZ := Lib.hid (M3.out nq).size
  clear hp hm ho y0 y1 y2 y3 q5 q9 g9 P3 M3 CL
  go_wp2
  go_ret
  refine ⟨rfl, o', _, P4.out.setPc nN, ?_, M4.out.trans ((Mp.of_nx (Nx.refl _) b sb o ge).set 5 _) (.inl rfl)⟩
  rcases HO.out with e | e
  · exact .inl e
  · exact .inr fun j hj => Nat.le_trans HZ.out (e j hj)
end
section
open Go.RowKit

theorem findNow_no (b : Nat) (op : Int) (h : op < 0 ∨ 16 < op) : Instr.findNow (.int .i64) (.int .i64 op) (mts b).toList 0 = some none := by
  have hj : ∀ (j : Nat) (e : MapEntry), (mts b).toList[j]? = some e → j < 17 ∧ e.key = .int .i64 (j : Int) := fun j e he => by
    unfold mts at he
    simp only [List.getElem?_map] at he
    rcases hr : (List.range 17)[j]? with _ | k
    · rw [hr] at he; cases he
    · rw [hr] at he
      obtain ⟨h1, h2⟩ := List.getElem?_eq_some_iff.1 hr
      simp at h1 h2
      subst h2
      obtain rfl := Option.some.inj he
      exact ⟨h1, rfl⟩
  rcases MapKept.findNow_spec (d := .int .i64) (k := .int .i64 op) (by simp [MapKept.IsKey]) (mts b).toList 0 (fun x hx => by
    obtain ⟨j, hx⟩ := List.getElem?_of_mem hx
    rw [(hj j x hx).2]
    simp [MapKept.IsKey]) with ⟨h1, _⟩ | ⟨j, e, _, he, hk⟩
  · exact h1
  · obtain ⟨h1, h2⟩ := hj j e he
    rw [h2] at hk
    simp only [Value.int.injEq, true_and] at hk
    omega
/-- What the machine does for an instruction: all stays but for the next program counter where it faults. -/
def ExP (base b sb : Nat) (o : Option Nat) (ge : Nat) (code : List In4) (inp : List Bool) (s : Mc) (x : In4) (w : World) (e : Ending) (w' : World) : Prop :=
  (insE inp code.length s x ≠ 0 → e = .returned (.int .i64 (insE inp code.length s x)) ∧ (∃ nt', PM w' base b sb o ge nt' code inp s) ∧ Mp b sb o ge w w') ∧
  (insE inp code.length s x = 0 → e = .returned (.int .i64 0) ∧ ∃ o' nt', PM w' base b sb o' ge nt' code inp { insD inp s x with pc := insP s x } ∧ (o' = o ∨ ∀ j, o' = some j → w.heap.size ≤ j) ∧ Mp b sb o ge w w')
theorem exec_of {f : Nat} {base b sb : Nat} {o : Option Nat} {ge : Nat} {nt : Int} {code : List In4} {inp : List Bool} {s : Mc} {op k n t : Int} (hx : code[s.pc]? = some ⟨op, k, n, t⟩) (hpc : s.pc ≤ 1000000) {i : Nat}
    (hf : Instr.findNow (.int .i64) (.int .i64 op) (mts b).toList 0 = some (some (i, mth b f))) {w : World} (h : PM w base b sb o ge nt code inp s) (hcf : ∀ (args : Array Value) (w : World), (callFunc f args).run Try.prog w = .ok (.enter f args) w) (hM : Mth f base b sb o ge code inp s ⟨op, k, n, t⟩) :
    Calls Try.prog 24 #[.pointer (some ⟨b, 0, none⟩)] w (ExP base b sb o ge code inp s ⟨op, k, n, t⟩ w) := by
  by_cases hE : insE inp code.length s ⟨op, k, n, t⟩ = 0
  · exact (vmExec_ok f base b sb o ge nt code inp s op k n t hx hpc i hf w h hcf hM hE).mono fun e w' hh => ⟨fun h0 => absurd hE h0, fun _ => hh⟩
  · exact (vmExec_no f base b sb o ge nt code inp s op k n t hx hpc i hf w h hcf hM hE).mono fun e w' hh => ⟨fun _ => hh, fun h0 => absurd h0 hE⟩
set_option maxHeartbeats 3200000 in
set_option maxRecDepth 100000 in
theorem vmExec_unknown (base b sb : Nat) (o : Option Nat) (ge : Nat) (nt : Int) (code : List In4) (inp : List Bool) (s : Mc) (op k n t : Int) (hx : code[s.pc]? = some ⟨op, k, n, t⟩) 
    (hf : Instr.findNow (.int .i64) (.int .i64 op) (mts b).toList 0 = some none) (w : World) (h : PM w base b sb o ge nt code inp s) :
    Calls Try.prog 24 #[.pointer (some ⟨b, 0, none⟩)] w (MdNo 8 w) := by
  obtain ⟨A, c, c0, hc⟩ := h.prog
  have c5 := h.cells.1
  obtain ⟨ad, rfl, k0, k1, k2, k3⟩ := hc.four _ _ hx
  have hlt : s.pc < code.length := (List.getElem?_eq_some_iff.1 hx).1
  have hp' : ¬ (code.length : Int) ≤ (s.pc : Int) := by omega
  have hp2 : (s.pc : Int) < (code.length : Int) := by omega
  simp only at k0 k1 k2 k3
  have NA := fun N => (((Nx.refl w).drewN N).alloc (.cells #[.int .i64 0, .int .i64 0, .int .i64 0, .int .i64 0] 28))
  have XA := fun N => (show Bx ((w.drewN N).alloc (.cells #[.int .i64 0, .int .i64 0, .int .i64 0, .int .i64 0] 28)) w.heap.size 28 [.int .i64 0, .int .i64 0, .int .i64 0, .int .i64 0] from bx_new (w.drewN N) _ _)
  have HW := Lib.hid (fun N => (show Nx w ((((((w.drewN N).alloc (.cells #[.int .i64 0, .int .i64 0, .int .i64 0, .int .i64 0] 28)).setCell ⟨w.heap.size, 0, none⟩ (.int .i64 op)).setCell ⟨w.heap.size, 1, none⟩ (.int .i64 k)).setCell ⟨w.heap.size, 2, none⟩ (.int .i64 n)).setCell ⟨w.heap.size, 3, none⟩ (.int .i64 t)) ∧ Bx ((((((w.drewN N).alloc (.cells #[.int .i64 0, .int .i64 0, .int .i64 0, .int .i64 0] 28)).setCell ⟨w.heap.size, 0, none⟩ (.int .i64 op)).setCell ⟨w.heap.size, 1, none⟩ (.int .i64 k)).setCell ⟨w.heap.size, 2, none⟩ (.int .i64 n)).setCell ⟨w.heap.size, 3, none⟩ (.int .i64 t)) w.heap.size 28 [.int .i64 op, .int .i64 k, .int .i64 n, .int .i64 t] from
    ⟨((((NA N).set (Nat.le_refl _) _).set (Nat.le_refl _) _).set (Nat.le_refl _) _).set (Nat.le_refl _) _, ((((XA N).put 0 _).put 1 _).put 2 _).put 3 _⟩))
  have a0 := fun N => (NA N).cell c0
  have a5 := fun N => (NA N).cell c5
  have ak0 := fun N => (NA N).cell k0
  have ak1 := fun N => (NA N).cell k1
  have ak2 := fun N => (NA N).cell k2
  have ak3 := fun N => (NA N).cell k3
  have n0 := fun N => (XA N).cell 0 rfl
  have n1 := fun N => (XA N).cell 1 rfl
  have n2 := fun N => (XA N).cell 2 rfl
  have n3 := fun N => (XA N).cell 3 rfl
  have m0 := fun N => (XA N).frozen 0
  have m1 := fun N => (XA N).frozen 1
  have m2 := fun N => (XA N).frozen 2
  have m3 := fun N => (XA N).frozen 3
  unfold MdNo
  have P := Lib.hid h
  have HFN := Lib.hid hf
  clear h hc hx NA XA hlt hf
  go_enter Try.func24, Try.ntmps24
  go_wp2_with fail
  go_quiet (fail)
  go_wp2_with fail
  go_region
  obtain ⟨nw, xw⟩ := HW.out (nq + 1)
  clear a0 a5 ak0 ak1 ak2 ak3 n0 n1 n2 n3 m0 m1 m2 m3 k0 k1 k2 k3 c0 c5 HW
  generalize (((((w.drewN (nq + 1)).alloc (.cells #[.int .i64 0, .int .i64 0, .int .i64 0, .int .i64 0] 28)).setCell ⟨w.heap.size, 0, none⟩ (.int .i64 op)).setCell ⟨w.heap.size, 1, none⟩ (.int .i64 k)).setCell ⟨w.heap.size, 2, none⟩ (.int .i64 n)).setCell ⟨w.heap.size, 3, none⟩ (.int .i64 t) = W at *
  have NW := Lib.hid nw
  have XW := Lib.hid xw
  have P2 := Lib.hid (P.out.nx nw)
  have x0 := xw.cell 0 rfl
  obtain ⟨mb, q8, qm⟩ := P2.out.table
  have lo0 := look_no qm op HFN.out
  have loN := fun N => look_no (w := W.drewN N) qm op HFN.out
  clear nw xw P
  go_wp2_with fail
  go_quiet (fail)
  go_wp2
  go_ret
  exact ⟨rfl, NW.out.trans (by repeat (first | exact Nx.refl _ | assumption | refine Nx.drewN ?_ _ | refine Nx.drew ?_ | refine Nx.alloc ?_ _ | refine Nx.set ?_ (by first | exact Nat.le_refl _ | (simp; done) | (simp; omega)) _))⟩

set_option maxRecDepth 100000 in
theorem vmExec_any (base b sb : Nat) (o : Option Nat) (ge : Nat) (nt : Int) (code : List In4) (inp : List Bool) (s : Mc) (x : In4) (hx : code[s.pc]? = some x) (hfit : Fit s) (w : World) (h : PM w base b sb o ge nt code inp s) :
    Calls Try.prog 24 #[.pointer (some ⟨b, 0, none⟩)] w (ExP base b sb o ge code inp s x w) := by
  obtain ⟨hl, hs, hpc⟩ := hfit
  obtain ⟨op, k, n, t⟩ := x
  by_cases hno : op < 0 ∨ 16 < op
  · have hE : insE inp code.length s ⟨op, k, n, t⟩ = 8 := by
      unfold insE
      rw [if_neg (by simp only; omega), if_neg (by simp only; omega), if_neg (by simp only; omega), if_neg (by simp only; omega), if_neg (by simp only; omega), if_neg (by simp only; omega), if_neg (by simp only; omega)]
    refine (vmExec_unknown base b sb o ge nt code inp s op k n t hx (findNow_no b op hno) w h).mono fun e w' hh => ⟨fun _ => ?_, fun h0 => absurd (hE.symm.trans h0) (by decide)⟩
    rw [hE]
    exact ⟨hh.1, ⟨_, h.nx hh.2⟩, Mp.of_nx hh.2 b sb o ge⟩
  have hops : op = 0 ∨ op = 1 ∨ op = 2 ∨ op = 3 ∨ op = 4 ∨ op = 5 ∨ op = 6 ∨ op = 7 ∨ op = 8 ∨ op = 9 ∨ op = 10 ∨ op = 11 ∨ op = 12 ∨ op = 13 ∨ op = 14 ∨ op = 15 ∨ op = 16 := by omega
  rcases hops with rfl | rfl | rfl | rfl | rfl | rfl | rfl | rfl | rfl | rfl | rfl | rfl | rfl | rfl | rfl | rfl | rfl
  · exact exec_of (f := 31) (i := 0) hx hpc rfl h (fun _ _ => by rfl) (mth0 base b sb o ge code inp s k n t)
  · exact exec_of (f := 32) (i := 1) hx hpc rfl h (fun _ _ => by rfl) (mth1 base b sb o ge code inp s k n t)
  · exact exec_of (f := 33) (i := 2) hx hpc rfl h (fun _ _ => by rfl) (mth2 base b sb o ge code inp s k n t)
  · exact exec_of (f := 34) (i := 3) hx hpc rfl h (fun _ _ => by rfl) (mth3 base b sb o ge code inp s k n t)
  · exact exec_of (f := 35) (i := 4) hx hpc rfl h (fun _ _ => by rfl) (mth4 base b sb o ge code inp s k n t)
  · exact exec_of (f := 36) (i := 5) hx hpc rfl h (fun _ _ => by rfl) (mth5 base b sb o ge code inp s k n t)
  · exact exec_of (f := 37) (i := 6) hx hpc rfl h (fun _ _ => by rfl) (mth6 base b sb o ge code inp s k n t hl.2.2)
  · exact exec_of (f := 38) (i := 7) hx hpc rfl h (fun _ _ => by rfl) (mth7 base b sb o ge code inp s k n t hl.2.2)
  · exact exec_of (f := 39) (i := 8) hx hpc rfl h (fun _ _ => by rfl) (mth8 base b sb o ge code inp s k n t)
  · exact exec_of (f := 40) (i := 9) hx hpc rfl h (fun _ _ => by rfl) (mth9 base b sb o ge code inp s k n t hs)
  · exact exec_of (f := 41) (i := 10) hx hpc rfl h (fun _ _ => by rfl) (mth10 base b sb o ge code inp s k n t hs)
  · exact exec_of (f := 42) (i := 11) hx hpc rfl h (fun _ _ => by rfl) (mth11 base b sb o ge code inp s k n t ⟨hl.1, hl.2.1⟩)
  · exact exec_of (f := 43) (i := 12) hx hpc rfl h (fun _ _ => by rfl) (mth12 base b sb o ge code inp s k n t ⟨hl.1, hl.2.1⟩)
  · exact exec_of (f := 44) (i := 13) hx hpc rfl h (fun _ _ => by rfl) (mth13 base b sb o ge code inp s k n t ⟨hl.1, hl.2.1⟩)
  · exact exec_of (f := 45) (i := 14) hx hpc rfl h (fun _ _ => by rfl) (mth14 base b sb o ge code inp s k n t ⟨hl.1, hl.2.1⟩)
  · exact exec_of (f := 46) (i := 15) hx hpc rfl h (fun _ _ => by rfl) (mth15 base b sb o ge code inp s k n t)
  · exact exec_of (f := 47) (i := 16) hx hpc rfl h (fun _ _ => by rfl) (mth16 base b sb o ge code inp s k n t)
end
section
open Go.RowKit

/-- A machine that runs has no fault. -/
def NF (s : Mc) : Prop := s.hlt = false → s.flt = 0
theorem nf_ins {inp : List Bool} {s : Mc} {x : In4} : (insD inp s x).flt = s.flt := by
  unfold insD
  repeat' split
  all_goals rfl
theorem stp_nf {code : List In4} {inp : List Bool} {s : Mc} (h : NF s) : NF (stp code inp s).1 := by
  cases hh : s.hlt with
  | true => rw [stp_hlt hh]; exact h
  | false =>
    by_cases hp : code.length ≤ s.pc
    · rw [stp_off hh hp]; intro e; cases e
    · have hx : code[s.pc]? = some code[s.pc] := List.getElem?_eq_getElem (by omega)
      by_cases hE : insE inp code.length s code[s.pc] = 0
      · rw [stp_ok hh hx hE]; intro _; exact nf_ins.trans (h hh)
      · rw [stp_no hh hx hE]; intro e; cases e
/-- What Step does. -/
def StP (base b sb : Nat) (o : Option Nat) (ge : Nat) (code : List In4) (inp : List Bool) (s : Mc) (w : World) (e : Ending) (w' : World) : Prop :=
  e = .returned (.tuple #[.bool (stp code inp s).2.1, .int .i64 (stp code inp s).2.2]) ∧ ∃ o' nt', PM w' base b sb o' ge nt' code inp (stp code inp s).1 ∧ (o' = o ∨ ∀ j, o' = some j → w.heap.size ≤ j) ∧ Mp b sb o ge w w'

set_option maxHeartbeats 1600000 in
set_option maxRecDepth 100000 in
theorem vmStep_hlt (base b sb : Nat) (o : Option Nat) (ge : Nat) (nt : Int) (code : List In4) (inp : List Bool) (s : Mc) (hh : s.hlt = true) (w : World) (h : PM w base b sb o ge nt code inp s) :
    Calls Try.prog 11 #[.pointer (some ⟨b, 0, none⟩)] w (StP base b sb o ge code inp s w) := by
  unfold StP
  rw [stp_hlt hh]
  have q8 := h.cells.2.2.2.2.1
  rw [hh] at q8
  have q9 := h.cells.2.2.2.2.2
  have P := Lib.hid h
  clear h hh
  go_enter Try.func11, Try.ntmps11
  go_wp2
  go_quiet (fail)
  go_wp2
  go_ret2
  exact ⟨rfl, o, nt, P.out.nx (by repeat (first | exact Nx.refl _ | assumption | refine Nx.drewN ?_ _ | refine Nx.drew ?_ | refine Nx.alloc ?_ _ | refine Nx.set ?_ (by first | exact Nat.le_refl _ | (simp; done) | (simp; omega)) _)), .inl rfl, Mp.of_nx (by repeat (first | exact Nx.refl _ | assumption | refine Nx.drewN ?_ _ | refine Nx.drew ?_ | refine Nx.alloc ?_ _ | refine Nx.set ?_ (by first | exact Nat.le_refl _ | (simp; done) | (simp; omega)) _)) b sb o ge⟩
set_option maxHeartbeats 1600000 in
set_option maxRecDepth 100000 in
/-- A step that faults. -/
theorem vmStep_no (base b sb : Nat) (o : Option Nat) (ge : Nat) (nt : Int) (code : List In4) (inp : List Bool) (s : Mc) (hh : s.hlt = false) (E : Int) (hE0 : E ≠ 0) (w : World) (h : PM w base b sb o ge nt code inp s)
    (hX : Calls Try.prog 24 #[.pointer (some ⟨b, 0, none⟩)] w (fun e w' => e = .returned (.int .i64 E) ∧ (∃ nt', PM w' base b sb o ge nt' code inp s) ∧ Mp b sb o ge w w')) :
    Calls Try.prog 11 #[.pointer (some ⟨b, 0, none⟩)] w (fun e w' => e = .returned (.tuple #[.bool false, .int .i64 E]) ∧ ∃ o' nt', PM w' base b sb o' ge nt' code inp { s with hlt := true, flt := E } ∧ (o' = o ∨ ∀ j, o' = some j → w.heap.size ≤ j) ∧ Mp b sb o ge w w') := by
  have q8 := h.cells.2.2.2.2.1
  rw [hh] at q8
  have CL := Lib.hid hX
  clear h hX hh
  go_enter Try.func11, Try.ntmps11
  go_wp2_with fail
  refine CL.out.mono ?_
  rintro e w2 ⟨rfl, ⟨nt', hp⟩, hm⟩
  have P2 := Lib.hid hp
  have M2 := Lib.hid hm
  have r8 := hp.cells.2.2.2.2.1
  have s8 := hp.frozen 10
  have r9 := (hp.setHlt true).cells.2.2.2.2.2
  have s9 := (hp.setHlt true).frozen 11
  have t8 := ((hp.setHlt true).setFlt E).cells.2.2.2.2.1
  have t9 := ((hp.setHlt true).setFlt E).cells.2.2.2.2.2
  clear q8 hp hm CL
  go_wp2_with fail
  go_quiet (fail)
  go_wp2
  go_ret2
  exact ⟨rfl, o, nt', ((P2.out.setHlt true).setFlt E).nx (by repeat (first | exact Nx.refl _ | assumption | refine Nx.drewN ?_ _ | refine Nx.drew ?_ | refine Nx.alloc ?_ _ | refine Nx.set ?_ (by first | exact Nat.le_refl _ | (simp; done) | (simp; omega)) _)), .inl rfl, ((M2.out.set 10 _).set 11 _).nx (by repeat (first | exact Nx.refl _ | assumption | refine Nx.drewN ?_ _ | refine Nx.drew ?_ | refine Nx.alloc ?_ _ | refine Nx.set ?_ (by first | exact Nat.le_refl _ | (simp; done) | (simp; omega)) _))⟩
set_option maxHeartbeats 1600000 in
set_option maxRecDepth 100000 in
/-- A step that does not. -/
theorem vmStep_ok (base b sb : Nat) (o : Option Nat) (ge : Nat) (nt : Int) (code : List In4) (inp : List Bool) (s sN : Mc) (hh : s.hlt = false) (hN : sN.flt = 0) (w : World) (h : PM w base b sb o ge nt code inp s)
    (hX : Calls Try.prog 24 #[.pointer (some ⟨b, 0, none⟩)] w (fun e w' => e = .returned (.int .i64 0) ∧ ∃ o' nt', PM w' base b sb o' ge nt' code inp sN ∧ (o' = o ∨ ∀ j, o' = some j → w.heap.size ≤ j) ∧ Mp b sb o ge w w')) :
    Calls Try.prog 11 #[.pointer (some ⟨b, 0, none⟩)] w (fun e w' => e = .returned (.tuple #[.bool (!sN.hlt), .int .i64 0]) ∧ ∃ o' nt', PM w' base b sb o' ge nt' code inp sN ∧ (o' = o ∨ ∀ j, o' = some j → w.heap.size ≤ j) ∧ Mp b sb o ge w w') := by
  have q8 := h.cells.2.2.2.2.1
  rw [hh] at q8
  have CL := Lib.hid hX
  clear h hX hh
  go_enter Try.func11, Try.ntmps11
  go_wp2_with fail
  refine CL.out.mono ?_
  rintro e w2 ⟨rfl, o', nt', hp, ho, hm⟩
  have P2 := Lib.hid hp
  have M2 := Lib.hid hm
  have HO := Lib.hid ho
  have r8 := hp.cells.2.2.2.2.1
  have r9 := hp.cells.2.2.2.2.2
  rw [hN] at r9
  clear q8 hp hm CL ho hN
  go_wp2_with fail
  go_quiet (fail)
  go_wp2
  go_ret2
  exact ⟨rfl, o', nt', P2.out.nx (by repeat (first | exact Nx.refl _ | assumption | refine Nx.drewN ?_ _ | refine Nx.drew ?_ | refine Nx.alloc ?_ _ | refine Nx.set ?_ (by first | exact Nat.le_refl _ | (simp; done) | (simp; omega)) _)), HO.out, M2.out.nx (by repeat (first | exact Nx.refl _ | assumption | refine Nx.drewN ?_ _ | refine Nx.drew ?_ | refine Nx.alloc ?_ _ | refine Nx.set ?_ (by first | exact Nat.le_refl _ | (simp; done) | (simp; omega)) _))⟩
theorem vmStep_any (base b sb : Nat) (o : Option Nat) (ge : Nat) (nt : Int) (code : List In4) (inp : List Bool) (s : Mc) (hf : Fit s) (hn : NF s) (w : World) (h : PM w base b sb o ge nt code inp s) :
    Calls Try.prog 11 #[.pointer (some ⟨b, 0, none⟩)] w (StP base b sb o ge code inp s w) := by
  cases hh : s.hlt with
  | true => exact vmStep_hlt base b sb o ge nt code inp s hh w h
  | false =>
    unfold StP
    by_cases hp : code.length ≤ s.pc
    · rw [stp_off hh hp]
      exact vmStep_no base b sb o ge nt code inp s hh 5 (by decide) w h ((vmExec_off base b sb o ge nt code inp s hp w h).mono fun e w' hm => ⟨hm.1, ⟨nt, h.nx hm.2⟩, Mp.of_nx hm.2 b sb o ge⟩)
    · have hx : code[s.pc]? = some code[s.pc] := List.getElem?_eq_getElem (by omega)
      by_cases hE : insE inp code.length s code[s.pc] = 0
      · rw [stp_ok hh hx hE]
        exact vmStep_ok base b sb o ge nt code inp s { insD inp s code[s.pc] with pc := insP s code[s.pc] } hh (nf_ins.trans (hn hh)) w h ((vmExec_any base b sb o ge nt code inp s _ hx hf w h).mono fun e w' hm => hm.2 hE)
      · rw [stp_no hh hx hE]
        exact vmStep_no base b sb o ge nt code inp s hh _ hE w h ((vmExec_any base b sb o ge nt code inp s _ hx hf w h).mono fun e w' hm => hm.1 hE)

set_option maxHeartbeats 800000 in
set_option maxRecDepth 100000 in
theorem vmAt_any (base b sb : Nat) (o : Option Nat) (ge : Nat) (nt : Int) (code : List In4) (inp : List Bool) (s : Mc) (w : World) (h : PM w base b sb o ge nt code inp s) :
    Calls Try.prog 13 #[.pointer (some ⟨b, 0, none⟩)] w (fun e w' => e = .returned (.int .i64 (s.pc : Int)) ∧ Nx w w') := by
  have q5 := h.cells.1
  clear h
  go_enter Try.func13, Try.ntmps13
  go_wp2
  go_ret
  exact ⟨rfl, (by repeat (first | exact Nx.refl _ | assumption | refine Nx.drewN ?_ _ | refine Nx.drew ?_ | refine Nx.alloc ?_ _ | refine Nx.set ?_ (by first | exact Nat.le_refl _ | (simp; done) | (simp; omega)) _))⟩
/-- The state's copy. -/
def CopyP (s : Mc) (w : World) (e : Ending) (w' : World) : Prop :=
  ∃ g1 g2 g3 c1 c2 c3, e = .returned (.agg #[.slice (some ⟨g1, 0, none⟩) s.q.length c1, .slice (some ⟨g2, 0, none⟩) s.m.length c2, .slice (some ⟨g3, 0, none⟩) s.e.length c3]) ∧ (g1 < g2 ∧ g2 < g3) ∧ (OwB w' w.heap.size g1 c1 s.q ∧ OwB w' w.heap.size g2 c2 s.m ∧ OwB w' w.heap.size g3 c3 s.e) ∧ Nx w w'

set_option maxHeartbeats 800000 in
set_option maxRecDepth 100000 in
theorem vmState_any (base b sb : Nat) (o : Option Nat) (ge : Nat) (nt : Int) (code : List In4) (inp : List Bool) (s : Mc) (hf : Fit s) (w : World) (h : PM w base b sb o ge nt code inp s) :
    Calls Try.prog 12 #[.pointer (some ⟨b, 0, none⟩)] w (CopyP s w) := by
  unfold CopyP
  obtain ⟨Ai, gq, gm, ci, cq, cm, ce, hC, hI, _⟩ := h.ims
  have NX := Lib.hid (Nx.one w (.cells #[.slice none 0 0, .slice none 0 0, .slice none 0 0] 31))
  have XR := bx_new w 31 [.slice none 0 0, .slice none 0 0, .slice none 0 0]
  have CL := Lib.hid (fun w' (k : Nx w w') => clone_ok (some ⟨gq, 0, none⟩) (some ⟨gm, 0, none⟩) (some ⟨ge, 0, none⟩) s.q.length s.m.length s.e.length cq cm ce s.q s.m s.e hf.1.1 hf.1.2.1 hf.1.2.2 w' (hI w' k).2.1 (hI w' k).2.2.1 (hI w' k).2.2.2)
  have q2 := (hC _ NX.out).2.1
  have q3 := (hC _ NX.out).2.2.1
  have q4 := (hC _ NX.out).2.2.2
  have HR := Lib.hid XR
  have z0 := XR.cell 0 rfl
  have z1 := XR.cell 1 rfl
  have z2 := XR.cell 2 rfl
  clear h hC hI XR
  go_enter Try.func12, Try.ntmps12
  go_wp2_with fail
  refine (CL.out _ NX.out).mono ?_
  rintro e w2 ⟨v, rfl, ⟨g1, g2, g3, c1, c2, c3, rfl, hlt, ⟨h1, _⟩, ⟨h2, _⟩, ⟨h3, _⟩⟩, hn⟩
  have N2 := Lib.hid (NX.out.trans hn)
  have XR2 := Lib.hid (HR.out.nx hn)
  have hsz : w.heap.size < (w.alloc (.cells #[.slice none 0 0, .slice none 0 0, .slice none 0 0] 31)).heap.size := by simp
  have H1 := Lib.hid h1
  have H2 := Lib.hid h2
  have H3 := Lib.hid h3
  have LT := Lib.hid hlt
  have HS := Lib.hid hsz
  have y0 := XR2.out.cell 0 rfl
  have y1 := XR2.out.cell 1 rfl
  have y2 := XR2.out.cell 2 rfl
  have f0 := XR2.out.frozen 0
  have f1 := XR2.out.frozen 1
  have f2 := XR2.out.frozen 2
  have X3 := ((XR2.out.put 0 (.slice (some ⟨g1, 0, none⟩) s.q.length c1)).put 1 (.slice (some ⟨g2, 0, none⟩) s.m.length c2)).put 2 (.slice (some ⟨g3, 0, none⟩) s.e.length c3)
  have u0 := X3.cell 0 rfl
  have u1 := X3.cell 1 rfl
  have u2 := X3.cell 2 rfl
  clear h1 h2 h3 hlt hn q2 q3 q4 z0 z1 z2 hsz X3
  go_wp2
  refine bodyPost_ret (by simp [results, Try.results12, go_sem, u0, u1, u2]; try rfl) rfl ?_
  have b1 := H1.out.base_le
  have b2 := H2.out.base_le
  have b3 := H3.out.base_le
  have hz := HS.out
  refine ⟨g1, g2, g3, c1, c2, c3, rfl, LT.out, ⟨?_, ?_, ?_⟩, ((N2.out.set (Nat.le_refl _) _).set (Nat.le_refl _) _).set (Nat.le_refl _) _⟩
  · exact (((H1.out.far (by omega) _).far (by omega) _).far (by omega) _).low (by omega)
  · exact (((H2.out.far (by omega) _).far (by omega) _).far (by omega) _).low (by omega)
  · exact (((H3.out.far (by omega) _).far (by omega) _).far (by omega) _).low (by omega)
end
section
open Go.RowKit

/-- What Step returns says whether the machine goes on, and with what fault it stops. -/
theorem stp_run {code : List In4} {inp : List Bool} {s : Mc} (hh : s.hlt = false) (hn : NF s) : (stp code inp s).2.1 = !(stp code inp s).1.hlt ∧ ((stp code inp s).1.hlt = true → (stp code inp s).2.2 = (stp code inp s).1.flt) ∧ ((stp code inp s).1.hlt = false → (stp code inp s).2.2 = 0) := by
  by_cases hp : code.length ≤ s.pc
  · rw [stp_off hh hp]; exact ⟨rfl, fun _ => rfl, fun h => by cases h⟩
  · have hx : code[s.pc]? = some code[s.pc] := List.getElem?_eq_getElem (by omega)
    by_cases hE : insE inp code.length s code[s.pc] = 0
    · rw [stp_ok hh hx hE]; exact ⟨rfl, fun _ => (nf_ins.trans (hn hh)).symm, fun _ => rfl⟩
    · rw [stp_no hh hx hE]; exact ⟨rfl, fun _ => rfl, fun h => by cases h⟩
theorem nf_mc0 (x1 x2 x3 : List Bool) : NF (mc0 x1 x2 x3) := fun _ => rfl
theorem fit_mc0 {code : List In4} {x1 x2 x3 : List Bool} (hcl : code.length ≤ 1000000) (hx : x1.length ≤ 1000000 ∧ x2.length ≤ 1000000 ∧ x3.length ≤ 1000000) : FitL code (mc0 x1 x2 x3) := ⟨⟨hx, by simp [mc0], by simp [mc0]⟩, by simp [mc0], hcl⟩
/-- The machine, its changes apart from what was there at W. -/
def PMW (W wr : World) (b sb ge : Nat) (code : List In4) (inp : List Bool) (s : Mc) : Prop := ∃ o nt, PM wr W.heap.size b sb o ge nt code inp s ∧ Nx W wr
theorem PMW.nx {W w w' : World} {b sb ge : Nat} {code : List In4} {inp : List Bool} {s : Mc} (h : PMW W w b sb ge code inp s) (k : Nx w w') : PMW W w' b sb ge code inp s := by
  obtain ⟨o, nt, h1, h2⟩ := h; exact ⟨o, nt, h1.nx k, h2.trans k⟩
theorem PMW.step {W w : World} {b sb ge : Nat} {code : List In4} {inp : List Bool} {s : Mc} (h : PMW W w b sb ge code inp s) (hf : Fit s) (hn : NF s) :
    Calls Try.prog 11 #[.pointer (some ⟨b, 0, none⟩)] w (fun e w' => e = .returned (.tuple #[.bool (stp code inp s).2.1, .int .i64 (stp code inp s).2.2]) ∧ PMW W w' b sb ge code inp (stp code inp s).1) := by
  obtain ⟨o, nt, h1, h2⟩ := h
  refine (vmStep_any _ b sb o ge nt code inp s hf hn w h1).mono fun e w' hh => ?_
  obtain ⟨rfl, o', nt', h3, _, hm⟩ := hh
  obtain ⟨b1, b2, b3, b4⟩ := h1.base_le
  exact ⟨rfl, o', nt', h3, h2.mp hm b1 b2 b4 b3⟩

set_option maxHeartbeats 3200000 in
set_option maxRecDepth 100000 in
theorem vmRun_any (code : List In4) (inp x1 x2 x3 : List Bool) (hcl : code.length ≤ 1000000) (Ac Ai A1 A2 A3 : Option Addr) (cc ni ci m1 c1 m2 c2 m3 c3 : Nat) (hni : ni ≤ 1000000) (hm1 : m1 ≤ 1000000) (hm2 : m2 ≤ 1000000) (hm3 : m3 ≤ 1000000) (w : World)
    (hc : RdC w Ac code) (hcn : Ac = none → cc = 0) (hi : Im w Ai ni ci inp) (h1 : Im w A1 m1 c1 x1) (h2 : Im w A2 m2 c2 x2) (h3 : Im w A3 m3 c3 x3) :
    Calls Try.prog 6 #[.slice Ac code.length cc, .slice Ai ni ci, .agg #[.slice A1 m1 c1, .slice A2 m2 c2, .slice A3 m3 c3]] w (RunPost code inp (mc0 x1 x2 x3) w) := by
  unfold RunPost
  have HFT := Lib.hid (fit_mc0 (code := code) hcl (x1 := x1) (x2 := x2) (x3 := x3) ⟨by rw [h1.2.1]; exact hm1, by rw [h2.2.1]; exact hm2, by rw [h3.2.1]; exact hm3⟩)
  have HN := Lib.hid (fun w' (k : Nx w w') => vmNew_any code inp x1 x2 x3 hcl Ac Ai A1 A2 A3 cc ni ci m1 c1 m2 c2 m3 c3 hni hm1 hm2 hm3 w' (hc.nx k) hcn (hi.nx k) (h1.nx k) (h2.nx k) (h3.nx k))
  unfold NewPM at HN
  have H0 := Lib.hid (show mu code (mc0 x1 x2 x3) ≤ code.length + 1 by simp [mu, mc0])
  have HNF := Lib.hid (nf_mc0 x1 x2 x3)
  have HLT := Lib.hid (show (mc0 x1 x2 x3).hlt = false from rfl)
  have HCL := Lib.hid hcl
  clear hc hcn hi h1 h2 h3 hcl hni hm1 hm2 hm3
  generalize mc0 x1 x2 x3 = s0 at *
  generalize code.length = L at *
  have N0 := Lib.hid (show Nx w ((w.alloc (.cells #[.slice A1 m1 c1, .slice A2 m2 c2, .slice A3 m3 c3] 31)).alloc (.cells #[.slice none 0 0, .slice none 0 0, .slice none 0 0, .int .i64 0, .int .i64 0, .int .i64 0] 34)) from (Nx.one _ _).alloc _)
  have XR := Lib.hid (bx_new (w.alloc (.cells #[.slice A1 m1 c1, .slice A2 m2 c2, .slice A3 m3 c3] 31)) 34 [.slice none 0 0, .slice none 0 0, .slice none 0 0, .int .i64 0, .int .i64 0, .int .i64 0])
  rw [show (w.alloc (.cells #[.slice A1 m1 c1, .slice A2 m2 c2, .slice A3 m3 c3] 31)).heap.size = w.heap.size + 1 by simp] at XR
  have XS := ((bx_new w 31 [.slice A1 m1 c1, .slice A2 m2 c2, .slice A3 m3 c3]).nx (Nx.one _ (.cells #[.slice none 0 0, .slice none 0 0, .slice none 0 0, .int .i64 0, .int .i64 0, .int .i64 0] 34)))
  have x0 := XS.cell 0 rfl
  have x1' := XS.cell 1 rfl
  have x2' := XS.cell 2 rfl
  have B1 := Lib.hid (show ((w.alloc (.cells #[.slice A1 m1 c1, .slice A2 m2 c2, .slice A3 m3 c3] 31)).alloc (.cells #[.slice none 0 0, .slice none 0 0, .slice none 0 0, .int .i64 0, .int .i64 0, .int .i64 0] 34)).heap.size = w.heap.size + 2 by simp)
  clear XS
  go_enter Try.func6, Try.ntmps6
  go_wp2_with fail
  refine (HN.out _ N0.out).mono ?_
  clear x0 x1' x2'
  generalize (w.alloc (.cells #[.slice A1 m1 c1, .slice A2 m2 c2, .slice A3 m3 c3] 31)).alloc (.cells #[.slice none 0 0, .slice none 0 0, .slice none 0 0, .int .i64 0, .int .i64 0, .int .i64 0] 34) = W at *
  rintro e w1 ⟨b, sb, ge, rfl, hp, k⟩
  have P1 := Lib.hid (show PMW W w1 b sb ge code inp s0 from ⟨none, 0, hp, k⟩)
  clear hp k HN
  go_wp2_with fail
  go_loopw [8] (fun i wr => ∃ (s : Mc) (n : Nat), i = .int .i64 n ∧ PMW W wr b sb ge code inp s ∧ FitL code s ∧ n + mu code s ≤ L + 1 ∧ run code inp s n = run code inp s0 0 ∧ s.hlt = false ∧ NF s)
    (fun i _ => L + 2 - (intOf i).toNat)
  case atStart => exact ⟨s0, 0, rfl, P1.out, HFT.out, by have := H0.out; omega, rfl, HLT.out, HNF.out⟩
  case round =>
    obtain ⟨s, n, rfl, hr, hf, hle, hrun, hh, hnf⟩ := hrel
    clear P1 HFT H0 HLT HNF
    obtain ⟨s1, c1', e1, hS⟩ : ∃ s1 c1 e1, stp code inp s = (s1, c1, e1) := ⟨_, _, _, rfl⟩
    have hmu := stp_mu (code := code) (inp := inp) hh
    have F1 := stp_fit (inp := inp) hf
    have hr1 := run_step (code := code) (inp := inp) hh n
    have hru := stp_run (code := code) (inp := inp) hh hnf
    have hnf1 := stp_nf (code := code) (inp := inp) hnf
    have CL := Lib.hid (hr.step hf.1 hnf)
    rw [hS] at hmu F1 hr1 CL hru hnf1
    simp only at hmu F1 hr1 CL hru hnf1
    have HM := Lib.hid hmu
    have HF1 := Lib.hid F1
    have HR1 := Lib.hid (hr1.symm.trans hrun)
    have HU := Lib.hid hru
    have HNF1 := Lib.hid hnf1
    have HL := Lib.hid hle
    have hn6 : n ≤ 1000001 := by have := HCL.out; omega
    obtain ⟨hru1, _, _⟩ := hru
    subst hru1
    clear hmu F1 hr1 hr hf hle hrun hS hh hnf hnf1
    obtain ⟨hl, hhl⟩ : ∃ hl, s1.hlt = hl := ⟨_, rfl⟩
    have HH := Lib.hid hhl
    rw [hhl] at CL
    clear hhl
    cases hl with
    | false =>
      have he : e1 = 0 := HU.out.2.2 HH.out
      subst he
      go_wp2_with fail
      refine CL.out.mono ?_
      rintro e w2 ⟨rfl, hp⟩
      have P2 := Lib.hid hp
      clear hp CL
      go_wp2_with fail
      go_roundw
      case rel => exact ⟨s1, n + 1, by go_num, P2.out, HF1.out, by have := HM.out; have := HL.out; omega, by have := HR1.out; simpa using this, HH.out, HNF1.out⟩
      case measure =>
        have h3 := HL.out
        have h4 := HM.out
        simp only [intOf]; omega
    | true =>
      have hflt : e1 = s1.flt := HU.out.2.1 HH.out
      have HFL := Lib.hid hflt
      have HR2 := Lib.hid (show run code inp s0 0 = (s1, if e1 = 0 then n + 1 else n) by rw [← HR1.out, run_hlt HH.out])
      clear hflt
      by_cases he : e1 = 0
      · subst he
        have HR3 := Lib.hid (show run code inp s0 0 = (s1, n + 1) by rw [HR2.out]; simp)
        clear HR2
        go_wp2_with fail
        refine CL.out.mono ?_
        rintro e w2 ⟨rfl, hp⟩
        have HP2 := hp
        obtain ⟨o2, nt2, hp2, hk2⟩ := HP2
        have P2 := Lib.hid hp2
        have K2 := Lib.hid hk2
        clear hp hp2 hk2 CL
        go_wp2_with fail
        refine (vmState_any _ b sb o2 ge nt2 code inp s1 HF1.out.1 _ P2.out).mono ?_
        rintro e w3 ⟨g1, g2, g3, d1, d2, d3, rfl, _, ⟨i1, i2, i3⟩, hk⟩
        have P3 := Lib.hid (P2.out.nx hk)
        have K3 := Lib.hid (K2.out.trans hk)
        have I3 := Lib.hid (show OwB w3 (w.heap.size + 2) g1 d1 s1.q ∧ OwB w3 (w.heap.size + 2) g2 d2 s1.m ∧ OwB w3 (w.heap.size + 2) g3 d3 s1.e from by
          have hsz := K2.out.size; rw [B1.out] at hsz; exact ⟨i1.low hsz, i2.low hsz, i3.low hsz⟩)
        clear hk i1 i2 i3
        go_wp2_with fail
        refine (vmAt_any _ b sb o2 ge nt2 code inp s1 _ P3.out).mono ?_
        rintro e w4 ⟨rfl, hk⟩
        have K4 := Lib.hid (K3.out.trans hk)
        have I4 := Lib.hid (show OwB w4 (w.heap.size + 2) g1 d1 s1.q ∧ OwB w4 (w.heap.size + 2) g2 d2 s1.m ∧ OwB w4 (w.heap.size + 2) g3 d3 s1.e from ⟨I3.out.1.nx hk, I3.out.2.1.nx hk, I3.out.2.2.nx hk⟩)
        have X4 := XR.out.nx K4.out
        have f0 := X4.frozen 0
        have f1 := X4.frozen 1
        have f2 := X4.frozen 2
        have f3 := X4.frozen 3
        have f4 := X4.frozen 4
        have f5 := X4.frozen 5
        have z0 := X4.cell 0 rfl
        have z1 := X4.cell 1 rfl
        have z2 := X4.cell 2 rfl
        have z3 := X4.cell 3 rfl
        have z4 := X4.cell 4 rfl
        have z5 := X4.cell 5 rfl
        have X5 := (((((X4.put 0 (.slice (some ⟨g1, 0, none⟩) s1.q.length d1)).put 1 (.slice (some ⟨g2, 0, none⟩) s1.m.length d2)).put 2 (.slice (some ⟨g3, 0, none⟩) s1.e.length d3)).put 3 (.int .i64 ((n : Int) + 1))).put 4 (.int .i64 (s1.pc : Int))).put 5 (.int .i64 0)
        have y0 := X5.cell 0 rfl
        have y1 := X5.cell 1 rfl
        have y2 := X5.cell 2 rfl
        have y3 := X5.cell 3 rfl
        have y4 := X5.cell 4 rfl
        have y5 := X5.cell 5 rfl
        clear hk X4 X5
        go_wp2
        refine bodyPost_ret (by simp [results, Try.results6, go_sem, y0, y1, y2, y3, y4, y5]; try rfl) rfl ?_
        rw [HR3.out]
        refine ⟨_, _, _, by rw [show s1.flt = 0 from HFL.out.symm]; rfl, ?_, ?_⟩
        · exact ⟨_, _, _, _, _, _, rfl, ((((((I4.out.1.far (by have := I4.out.1.base_le; omega) _).far (by have := I4.out.1.base_le; omega) _).far (by have := I4.out.1.base_le; omega) _).far (by have := I4.out.1.base_le; omega) _).far (by have := I4.out.1.base_le; omega) _).far (by have := I4.out.1.base_le; omega) _).im rfl, ((((((I4.out.2.1.far (by have := I4.out.2.1.base_le; omega) _).far (by have := I4.out.2.1.base_le; omega) _).far (by have := I4.out.2.1.base_le; omega) _).far (by have := I4.out.2.1.base_le; omega) _).far (by have := I4.out.2.1.base_le; omega) _).far (by have := I4.out.2.1.base_le; omega) _).im rfl, ((((((I4.out.2.2.far (by have := I4.out.2.2.base_le; omega) _).far (by have := I4.out.2.2.base_le; omega) _).far (by have := I4.out.2.2.base_le; omega) _).far (by have := I4.out.2.2.base_le; omega) _).far (by have := I4.out.2.2.base_le; omega) _).far (by have := I4.out.2.2.base_le; omega) _).im rfl⟩
        · exact ((((((N0.out.trans K4.out).set (show w.heap.size ≤ w.heap.size + 1 by omega) _).set (show w.heap.size ≤ w.heap.size + 1 by omega) _).set (show w.heap.size ≤ w.heap.size + 1 by omega) _).set (show w.heap.size ≤ w.heap.size + 1 by omega) _).set (show w.heap.size ≤ w.heap.size + 1 by omega) _).set (show w.heap.size ≤ w.heap.size + 1 by omega) _
      · have HR3 := Lib.hid (show run code inp s0 0 = (s1, n) by rw [HR2.out, if_neg he])
        clear HR2
        go_wp2_with fail
        refine CL.out.mono ?_
        rintro e w2 ⟨rfl, hp⟩
        have HP2 := hp
        obtain ⟨o2, nt2, hp2, hk2⟩ := HP2
        have P2 := Lib.hid hp2
        have K2 := Lib.hid hk2
        clear hp hp2 hk2 CL
        go_wp2_with fail
        refine (vmState_any _ b sb o2 ge nt2 code inp s1 HF1.out.1 _ P2.out).mono ?_
        rintro e w3 ⟨g1, g2, g3, d1, d2, d3, rfl, _, ⟨i1, i2, i3⟩, hk⟩
        have P3 := Lib.hid (P2.out.nx hk)
        have K3 := Lib.hid (K2.out.trans hk)
        have I3 := Lib.hid (show OwB w3 (w.heap.size + 2) g1 d1 s1.q ∧ OwB w3 (w.heap.size + 2) g2 d2 s1.m ∧ OwB w3 (w.heap.size + 2) g3 d3 s1.e from by
          have hsz := K2.out.size; rw [B1.out] at hsz; exact ⟨i1.low hsz, i2.low hsz, i3.low hsz⟩)
        clear hk i1 i2 i3
        go_wp2_with fail
        refine (vmAt_any _ b sb o2 ge nt2 code inp s1 _ P3.out).mono ?_
        rintro e w4 ⟨rfl, hk⟩
        have K4 := Lib.hid (K3.out.trans hk)
        have I4 := Lib.hid (show OwB w4 (w.heap.size + 2) g1 d1 s1.q ∧ OwB w4 (w.heap.size + 2) g2 d2 s1.m ∧ OwB w4 (w.heap.size + 2) g3 d3 s1.e from ⟨I3.out.1.nx hk, I3.out.2.1.nx hk, I3.out.2.2.nx hk⟩)
        have X4 := XR.out.nx K4.out
        have f0 := X4.frozen 0
        have f1 := X4.frozen 1
        have f2 := X4.frozen 2
        have f3 := X4.frozen 3
        have f4 := X4.frozen 4
        have f5 := X4.frozen 5
        have z0 := X4.cell 0 rfl
        have z1 := X4.cell 1 rfl
        have z2 := X4.cell 2 rfl
        have z3 := X4.cell 3 rfl
        have z4 := X4.cell 4 rfl
        have z5 := X4.cell 5 rfl
        have X5 := (((((X4.put 0 (.slice (some ⟨g1, 0, none⟩) s1.q.length d1)).put 1 (.slice (some ⟨g2, 0, none⟩) s1.m.length d2)).put 2 (.slice (some ⟨g3, 0, none⟩) s1.e.length d3)).put 3 (.int .i64 (n : Int))).put 4 (.int .i64 (s1.pc : Int))).put 5 (.int .i64 e1)
        have y0 := X5.cell 0 rfl
        have y1 := X5.cell 1 rfl
        have y2 := X5.cell 2 rfl
        have y3 := X5.cell 3 rfl
        have y4 := X5.cell 4 rfl
        have y5 := X5.cell 5 rfl
        clear hk X4 X5
        go_wp2
        refine bodyPost_ret (by simp [results, Try.results6, go_sem, y0, y1, y2, y3, y4, y5]; try rfl) rfl ?_
        rw [HR3.out]
        refine ⟨_, _, _, by rw [show s1.flt = e1 from HFL.out.symm], ?_, ?_⟩
        · exact ⟨_, _, _, _, _, _, rfl, ((((((I4.out.1.far (by have := I4.out.1.base_le; omega) _).far (by have := I4.out.1.base_le; omega) _).far (by have := I4.out.1.base_le; omega) _).far (by have := I4.out.1.base_le; omega) _).far (by have := I4.out.1.base_le; omega) _).far (by have := I4.out.1.base_le; omega) _).im rfl, ((((((I4.out.2.1.far (by have := I4.out.2.1.base_le; omega) _).far (by have := I4.out.2.1.base_le; omega) _).far (by have := I4.out.2.1.base_le; omega) _).far (by have := I4.out.2.1.base_le; omega) _).far (by have := I4.out.2.1.base_le; omega) _).far (by have := I4.out.2.1.base_le; omega) _).im rfl, ((((((I4.out.2.2.far (by have := I4.out.2.2.base_le; omega) _).far (by have := I4.out.2.2.base_le; omega) _).far (by have := I4.out.2.2.base_le; omega) _).far (by have := I4.out.2.2.base_le; omega) _).far (by have := I4.out.2.2.base_le; omega) _).far (by have := I4.out.2.2.base_le; omega) _).im rfl⟩
        · exact ((((((N0.out.trans K4.out).set (show w.heap.size ≤ w.heap.size + 1 by omega) _).set (show w.heap.size ≤ w.heap.size + 1 by omega) _).set (show w.heap.size ≤ w.heap.size + 1 by omega) _).set (show w.heap.size ≤ w.heap.size + 1 by omega) _).set (show w.heap.size ≤ w.heap.size + 1 by omega) _).set (show w.heap.size ≤ w.heap.size + 1 by omega) _
end
end Go.Proofs.Ytdpccnpaajhliaa
