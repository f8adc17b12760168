/- What the reference's Clone returns. Conditions: images that read as lists of bools, of at most a million. -/
import Derived.Test.YtndapcbjcannhaaS5
import Derived.Test.YtndapcbjcannhaaR1
import Derived.Test.YtndapcbjcannhaaR2
namespace Go.Proofs.Ytndapcbjcannhaa
open Go.RowKit

/-- A state of the call's own, its images nil or not. -/
def OS (w : World) (B : Nat) (v : Value) (x1 x2 x3 : List Bool) : Prop := ∃ v1 v2 v3, v = .agg #[v1, v2, v3] ∧ Ow w B v1 x1 ∧ Ow w B v2 x2 ∧ Ow w B v3 x3
/-- Two rows that hold something lie in two blocks. -/
def Ap (u v : Value) (x y : List Bool) : Prop := x ≠ [] → y ≠ [] → u.ownBlock ≠ v.ownBlock
/-- .. its images apart. -/
def OD (w : World) (B : Nat) (v : Value) (x1 x2 x3 : List Bool) : Prop := ∃ v1 v2 v3, v = .agg #[v1, v2, v3] ∧ (Ow w B v1 x1 ∧ Ow w B v2 x2 ∧ Ow w B v3 x3) ∧ (Ap v1 v2 x1 x2 ∧ Ap v1 v3 x1 x3 ∧ Ap v2 v3 x2 x3)
theorem OD.os {w : World} {B : Nat} {v : Value} {x1 x2 x3 : List Bool} (h : OD w B v x1 x2 x3) : OS w B v x1 x2 x3 := by
  obtain ⟨v1, v2, v3, rfl, ⟨h1, h2, h3⟩, _⟩ := h
  exact ⟨v1, v2, v3, rfl, h1, h2, h3⟩
theorem OD.kept {w w' : World} {B b : Nat} {v : Value} {x1 x2 x3 : List Bool} (h : OD w B v x1 x2 x3) (hb : b < B) (k : w.grownBy w' (some b)) : OD w' B v x1 x2 x3 := by
  obtain ⟨v1, v2, v3, rfl, ⟨h1, h2, h3⟩, ha⟩ := h
  exact ⟨v1, v2, v3, rfl, ⟨h1.kept hb k, h2.kept hb k, h3.kept hb k⟩, ha⟩
theorem OD.nx {w w' : World} {B : Nat} {v : Value} {x1 x2 x3 : List Bool} (h : OD w B v x1 x2 x3) (k : Nx w w') : OD w' B v x1 x2 x3 := by
  obtain ⟨v1, v2, v3, rfl, ⟨h1, h2, h3⟩, ha⟩ := h
  exact ⟨v1, v2, v3, rfl, ⟨Ow.nx h1 k, Ow.nx h2 k, Ow.nx h3 k⟩, ha⟩
theorem OD.low {w : World} {B B' : Nat} {v : Value} {x1 x2 x3 : List Bool} (h : OD w B v x1 x2 x3) (hb : B' ≤ B) : OD w B' v x1 x2 x3 := by
  obtain ⟨v1, v2, v3, rfl, ⟨h1, h2, h3⟩, ha⟩ := h
  exact ⟨v1, v2, v3, rfl, ⟨own_low h1 hb, own_low h2 hb, own_low h3 hb⟩, ha⟩
/-- What lies in the heap and what is made later are apart. -/
theorem ap_of {w w' : World} {B : Nat} {u v : Value} {x y : List Bool} (hu : Ow w B u x) (hv : y ≠ [] → Ow w' w.heap.size v y) : Ap u v x y := by
  intro hx hy e
  obtain ⟨gu, cu, eu, _⟩ := owB_form hu (List.length_pos_iff.2 hx)
  obtain ⟨gv, cv, ev, ov⟩ := owB_form (hv hy) (List.length_pos_iff.2 hy)
  subst eu ev
  have h1 := (World.ownsRow.lt hu gu rfl).2
  have h2 := ov.base_le
  simp only [Value.ownBlock, Option.some.injEq] at e
  omega
theorem OS.kept {w w' : World} {B b : Nat} {v : Value} {x1 x2 x3 : List Bool} (h : OS w B v x1 x2 x3) (hb : b < B) (k : w.grownBy w' (some b)) : OS w' B v x1 x2 x3 := by
  obtain ⟨v1, v2, v3, rfl, h1, h2, h3⟩ := h
  exact ⟨v1, v2, v3, rfl, h1.kept hb k, h2.kept hb k, h3.kept hb k⟩

theorem OS.low {w : World} {B B' : Nat} {v : Value} {x1 x2 x3 : List Bool} (h : OS w B v x1 x2 x3) (hb : B' ≤ B) : OS w B' v x1 x2 x3 := by
  obtain ⟨v1, v2, v3, rfl, h1, h2, h3⟩ := h
  exact ⟨v1, v2, v3, rfl, own_low h1 hb, own_low h2 hb, own_low h3 hb⟩
theorem OS.nx {w w' : World} {B : Nat} {v : Value} {x1 x2 x3 : List Bool} (h : OS w B v x1 x2 x3) (k : Nx w w') : OS w' B v x1 x2 x3 := by
  obtain ⟨v1, v2, v3, rfl, h1, h2, h3⟩ := h
  exact ⟨v1, v2, v3, rfl, Ow.nx h1 k, Ow.nx h2 k, Ow.nx h3 k⟩

def see23 (j : Nat) : List Nat := match j with
  | 7 => [3]
  | 11 => [3, 7]
  | _ => []
def psi23 (h b B : Nat) (A1 A2 A3 : Option Addr) (m1 m2 m3 c1 c2 c3 : Nat) (x1 x2 x3 : List Bool) (j : Nat) (f : Nat → Value) (w : World) : Prop := match j with
  | 0 => ∃ g, f 0 = .slice (some ⟨g, 0, none⟩) 0 0 ∧ w.ownsRow B 4 1 (f 0) 0 []
  | 1 => f 1 = .pointer (some ⟨h, 0, none⟩)
  | 2 => f 2 = .slice A1 m1 c1
  | 3 => Ow w B (f 3) x1
  | 4 => ∃ g, f 4 = .slice (some ⟨g, 0, none⟩) 0 0 ∧ w.ownsRow B 4 1 (f 4) 0 []
  | 5 => f 5 = .pointer (some ⟨h, 1, none⟩)
  | 6 => f 6 = .slice A2 m2 c2
  | 7 => Ow w B (f 7) x2 ∧ Ow w B (f 3) x1 ∧ Ap (f 3) (f 7) x1 x2
  | 8 => ∃ g, f 8 = .slice (some ⟨g, 0, none⟩) 0 0 ∧ w.ownsRow B 4 1 (f 8) 0 []
  | 9 => f 9 = .pointer (some ⟨h, 2, none⟩)
  | 10 => f 10 = .slice A3 m3 c3
  | 11 => Ow w B (f 11) x3 ∧ Ap (f 3) (f 11) x1 x3 ∧ Ap (f 7) (f 11) x2 x3
  | 12 => OD w B (f 12) x1 x2 x3
  | 13 => ∃ v1 v2 v3, Bx w b 26 [v1, v2, v3] ∧ OD w B (.agg #[v1, v2, v3]) x1 x2 x3
  | _ => False

set_option maxHeartbeats 3200000 in
set_option maxRecDepth 100000 in
theorem refClone_ok (A1 A2 A3 : Option Addr) (m1 m2 m3 c1 c2 c3 : Nat) (x1 x2 x3 : List Bool) (hm1 : m1 ≤ 1000000) (hm2 : m2 ≤ 1000000) (hm3 : m3 ≤ 1000000) (w : World)
    (hx1 : Im w A1 m1 c1 x1) (hx2 : Im w A2 m2 c2 x2) (hx3 : Im w A3 m3 c3 x3) :
    Calls Try.prog 23 #[.agg #[.slice A1 m1 c1, .slice A2 m2 c2, .slice A3 m3 c3]] w fun e w' => ∃ v, e = .returned v ∧ OD w' w.heap.size v x1 x2 x3 ∧ Nx w w' := by
  have I1 := Lib.hid hx1
  have I2 := Lib.hid hx2
  have I3 := Lib.hid hx3
  clear hx1 hx2 hx3
  have N0 := Lib.hid (show Nx w ((w.alloc (.cells #[.slice A1 m1 c1, .slice A2 m2 c2, .slice A3 m3 c3] 26)).alloc (.cells #[.slice none 0 0, .slice none 0 0, .slice none 0 0] 26)) from (Nx.one _ _).alloc _)
  have XR := Lib.hid (bx_new (w.alloc (.cells #[.slice A1 m1 c1, .slice A2 m2 c2, .slice A3 m3 c3] 26)) 26 [.slice none 0 0, .slice none 0 0, .slice none 0 0])
  rw [show (w.alloc (.cells #[.slice A1 m1 c1, .slice A2 m2 c2, .slice A3 m3 c3] 26)).heap.size = w.heap.size + 1 by simp] at XR
  have XS := Lib.hid ((bx_new w 26 [.slice A1 m1 c1, .slice A2 m2 c2, .slice A3 m3 c3]).nx (Nx.one _ (.cells #[.slice none 0 0, .slice none 0 0, .slice none 0 0] 26)))
  go_enter Try.func23, Try.ntmps23
  go_wp2_with fail
  have B1 := Lib.hid (show ((w.alloc (.cells #[.slice A1 m1 c1, .slice A2 m2 c2, .slice A3 m3 c3] 26)).alloc (.cells #[.slice none 0 0, .slice none 0 0, .slice none 0 0] 26)).heap.size = w.heap.size + 2 by simp)
  generalize (w.alloc (.cells #[.slice A1 m1 c1, .slice A2 m2 c2, .slice A3 m3 c3] 26)).alloc (.cells #[.slice none 0 0, .slice none 0 0, .slice none 0 0] 26) = W at *
  refine wp_region_see (by kernel_rfl) (by kernel_rfl) (by kernel_rfl) see23 (by kernel_rfl) (fun u v => u.grownBy v (some (w.heap.size + 1))) (fun _ _ k => k.grown _) (fun _ _ _ => grown_trans) 13
    (fun w1 => ∃ v1 v2 v3, Bx w1 (w.heap.size + 1) 26 [v1, v2, v3]) (psi23 w.heap.size (w.heap.size + 1) (w.heap.size + 2) A1 A2 A3 m1 m2 m3 c1 c2 c3 x1 x2 x3) ?_ ?_ ?_ ?_ ⟨_, _, _, XR.out⟩ ?_ ?_
  · intro j f f' u e hs hp
    unfold psi23 at hp ⊢
    split at hp
    case h_8 => rw [← e, ← hs 3 (by decide)]; exact hp
    case h_12 => rw [← e, ← hs 3 (by decide), ← hs 7 (by decide)]; exact hp
    case h_14 => exact hp
    all_goals (try rw [← e]; exact hp)
    all_goals exact hp
  · intro j f u u' hj k hp
    unfold psi23 at hp ⊢
    split at hp
    case h_1 => obtain ⟨g, e, ho⟩ := hp; exact ⟨g, e, Ow.kept (xs := []) ho (by omega) k⟩
    case h_5 => obtain ⟨g, e, ho⟩ := hp; exact ⟨g, e, Ow.kept (xs := []) ho (by omega) k⟩
    case h_9 => obtain ⟨g, e, ho⟩ := hp; exact ⟨g, e, Ow.kept (xs := []) ho (by omega) k⟩
    case h_4 => exact hp.kept (by omega) k
    case h_8 => exact ⟨hp.1.kept (by omega) k, hp.2.1.kept (by omega) k, hp.2.2⟩
    case h_12 => exact ⟨hp.1.kept (by omega) k, hp.2⟩
    case h_13 => exact hp.kept (by omega) k
    case h_14 => exact absurd rfl hj
    all_goals exact hp
  · intro f u u' k hp
    obtain ⟨v1, v2, v3, hb, ho⟩ := hp
    exact ⟨v1, v2, v3, hb.nx k, ho.kept (b := w.heap.size + 1) (by omega) (k.grown _)⟩
  · rintro u u' k ⟨v1, v2, v3, hb⟩
    exact ⟨v1, v2, v3, hb.nx k⟩
  · intro i o ho a1 w1 K hF hJ hR hE hK
    have f1 : a1.tmps[1]?.getD undef = .pointer (some ⟨w.heap.size, 0, none⟩) := tmp_of (hF.2.2 1 (by kernel_rfl))
    have f2 : a1.tmps[2]?.getD undef = .pointer (some ⟨w.heap.size + 1, 0, none⟩) := tmp_of (hF.2.2 2 (by kernel_rfl))
    have XS1 : Bx w1 w.heap.size 26 [.slice A1 m1 c1, .slice A2 m2 c2, .slice A3 m3 c3] := (hR.block _ XS.out.lt (by simp)).trans XS.out
    have s0 := XS1.cell 0 rfl
    have s1 := XS1.cell 1 rfl
    have s2 := XS1.cell 2 rfl
    have hNW := nx_grown N0.out hR (by omega)
    have hsz := hR.size
    rw [B1.out] at hsz
    rcases i with _ | _ | _ | _ | _ | _ | _ | _ | _ | _ | _ | _ | _ | _ | i
    · obtain rfl := Option.some.inj ho
      have hK0 := Lib.hid hK
      clear hK hE hF hR hJ
      unfold Oper.wp
      go_simp
      exact hK0.out _ _ (fun _ => Nx.one _ _) (fun h => by cases h) ⟨_, rfl, own_low (World.ownsRow_lit (base := w1.heap.size) (e := 4) (size := 1) w1 #[] 0 (Nat.le_refl _) (by unfold maxLen; omega) rfl) hsz⟩ (fun h => by cases h)
    · obtain rfl := Option.some.inj ho
      have hK0 := Lib.hid hK
      clear hK hE hF hR hJ
      unfold Oper.wp
      go_simp
      exact hK0.out _ _ (fun _ => Nx.refl _) (fun h => by cases h) rfl (fun h => by cases h)
    · obtain rfl := Option.some.inj ho
      have e1 : a1.tmps[4]?.getD undef = .pointer (some ⟨w.heap.size, 0, none⟩) := tmp_of (show a1.tmps.getD 4 undef = _ from hE ⟨1, .data⟩ (by simp) rfl)
      have hK0 := Lib.hid hK
      clear hK hE hF hR hJ
      unfold Oper.wp
      go_simp
      exact hK0.out _ _ (fun _ => Nx.refl _) (fun h => by cases h) rfl (fun h => by cases h)
    · obtain rfl := Option.some.inj ho
      obtain ⟨g, e1, ho1⟩ : ∃ g, a1.tmps.getD 3 undef = .slice (some ⟨g, 0, none⟩) 0 0 ∧ w1.ownsRow (w.heap.size + 2) 4 1 (a1.tmps.getD 3 undef) 0 [] := hE ⟨0, .data⟩ (by simp) rfl
      rw [e1] at ho1
      have e2 : a1.tmps.getD 5 undef = .slice A1 m1 c1 := hE ⟨2, .data⟩ (by simp) rfl
      exact wp_fresh (.tmp 3) (.tmp 5) rfl (w.heap.size + 2) g e1 ho1 hsz A1 m1 c1 x1 e2 (I1.out.nx hNW) (by omega) (fun v w2 hn hw _ => hK v w2 (fun _ => hn) (fun h => by cases h) hw (fun h => by cases h))
    · obtain rfl := Option.some.inj ho
      have hK0 := Lib.hid hK
      clear hK hE hF hR hJ
      unfold Oper.wp
      go_simp
      exact hK0.out _ _ (fun _ => Nx.one _ _) (fun h => by cases h) ⟨_, rfl, own_low (World.ownsRow_lit (base := w1.heap.size) (e := 4) (size := 1) w1 #[] 0 (Nat.le_refl _) (by unfold maxLen; omega) rfl) hsz⟩ (fun h => by cases h)
    · obtain rfl := Option.some.inj ho
      have hK0 := Lib.hid hK
      clear hK hE hF hR hJ
      unfold Oper.wp
      go_simp
      exact hK0.out _ _ (fun _ => Nx.refl _) (fun h => by cases h) rfl (fun h => by cases h)
    · obtain rfl := Option.some.inj ho
      have e1 : a1.tmps[8]?.getD undef = .pointer (some ⟨w.heap.size, 1, none⟩) := tmp_of (show a1.tmps.getD 8 undef = _ from hE ⟨5, .data⟩ (by simp) rfl)
      have hK0 := Lib.hid hK
      clear hK hE hF hR hJ
      unfold Oper.wp
      go_simp
      exact hK0.out _ _ (fun _ => Nx.refl _) (fun h => by cases h) rfl (fun h => by cases h)
    · obtain rfl := Option.some.inj ho
      obtain ⟨g, e1, ho1⟩ : ∃ g, a1.tmps.getD 7 undef = .slice (some ⟨g, 0, none⟩) 0 0 ∧ w1.ownsRow (w.heap.size + 2) 4 1 (a1.tmps.getD 7 undef) 0 [] := hE ⟨4, .data⟩ (by simp) rfl
      rw [e1] at ho1
      have p3 : Ow w1 (w.heap.size + 2) (a1.tmps.getD 6 undef) x1 := hE ⟨3, .chain⟩ (by simp) rfl
      have e2 : a1.tmps.getD 9 undef = .slice A2 m2 c2 := hE ⟨6, .data⟩ (by simp) rfl
      exact wp_fresh (.tmp 7) (.tmp 9) rfl (w.heap.size + 2) g e1 ho1 hsz A2 m2 c2 x2 e2 (I2.out.nx hNW) (by omega) (fun v w2 hn hw hw' => hK v w2 (fun _ => hn) (fun h => by cases h) ⟨hw, Ow.nx p3 hn, ap_of p3 hw'⟩ (fun h => by cases h))
    · obtain rfl := Option.some.inj ho
      have hK0 := Lib.hid hK
      clear hK hE hF hR hJ
      unfold Oper.wp
      go_simp
      exact hK0.out _ _ (fun _ => Nx.one _ _) (fun h => by cases h) ⟨_, rfl, own_low (World.ownsRow_lit (base := w1.heap.size) (e := 4) (size := 1) w1 #[] 0 (Nat.le_refl _) (by unfold maxLen; omega) rfl) hsz⟩ (fun h => by cases h)
    · obtain rfl := Option.some.inj ho
      have hK0 := Lib.hid hK
      clear hK hE hF hR hJ
      unfold Oper.wp
      go_simp
      exact hK0.out _ _ (fun _ => Nx.refl _) (fun h => by cases h) rfl (fun h => by cases h)
    · obtain rfl := Option.some.inj ho
      have e1 : a1.tmps[12]?.getD undef = .pointer (some ⟨w.heap.size, 2, none⟩) := tmp_of (show a1.tmps.getD 12 undef = _ from hE ⟨9, .data⟩ (by simp) rfl)
      have hK0 := Lib.hid hK
      clear hK hE hF hR hJ
      unfold Oper.wp
      go_simp
      exact hK0.out _ _ (fun _ => Nx.refl _) (fun h => by cases h) rfl (fun h => by cases h)
    · obtain rfl := Option.some.inj ho
      obtain ⟨g, e1, ho1⟩ : ∃ g, a1.tmps.getD 11 undef = .slice (some ⟨g, 0, none⟩) 0 0 ∧ w1.ownsRow (w.heap.size + 2) 4 1 (a1.tmps.getD 11 undef) 0 [] := hE ⟨8, .data⟩ (by simp) rfl
      rw [e1] at ho1
      have p7 : Ow w1 (w.heap.size + 2) (a1.tmps.getD 10 undef) x2 ∧ Ow w1 (w.heap.size + 2) (a1.tmps.getD 6 undef) x1 ∧ Ap (a1.tmps.getD 6 undef) (a1.tmps.getD 10 undef) x1 x2 := hE ⟨7, .chain⟩ (by simp) rfl
      have e2 : a1.tmps.getD 13 undef = .slice A3 m3 c3 := hE ⟨10, .data⟩ (by simp) rfl
      exact wp_fresh (.tmp 11) (.tmp 13) rfl (w.heap.size + 2) g e1 ho1 hsz A3 m3 c3 x3 e2 (I3.out.nx hNW) (by omega) (fun v w2 hn hw hw' => hK v w2 (fun _ => hn) (fun h => by cases h) ⟨hw, ap_of p7.2.1 hw', ap_of p7.1 hw'⟩ (fun h => by cases h))
    · obtain rfl := Option.some.inj ho
      obtain ⟨v1, hv1⟩ : ∃ v1, a1.tmps.getD 6 undef = v1 := ⟨_, rfl⟩
      obtain ⟨v2, hv2⟩ : ∃ v2, a1.tmps.getD 10 undef = v2 := ⟨_, rfl⟩
      obtain ⟨v3, hv3⟩ : ∃ v3, a1.tmps.getD 14 undef = v3 := ⟨_, rfl⟩
      have o1 : Ow w1 (w.heap.size + 2) v1 x1 := hv1 ▸ (show Ow w1 (w.heap.size + 2) (a1.tmps.getD 6 undef) x1 from hE ⟨3, .data⟩ (by simp) rfl)
      have o2 : Ow w1 (w.heap.size + 2) v2 x2 := hv2 ▸ (show Ow w1 (w.heap.size + 2) (a1.tmps.getD 10 undef) x2 from (hE ⟨7, .data⟩ (by simp) rfl).1)
      have o3 : Ow w1 (w.heap.size + 2) v3 x3 := hv3 ▸ (show Ow w1 (w.heap.size + 2) (a1.tmps.getD 14 undef) x3 from (hE ⟨11, .data⟩ (by simp) rfl).1)
      have p1 : Ap v1 v2 x1 x2 := by have := (hE ⟨7, .data⟩ (by simp) rfl).2.2; rw [← hv1, ← hv2]; exact this
      have p2 : Ap v1 v3 x1 x3 := by have := (hE ⟨11, .data⟩ (by simp) rfl).2.1; rw [← hv1, ← hv3]; exact this
      have p3 : Ap v2 v3 x2 x3 := by have := (hE ⟨11, .data⟩ (by simp) rfl).2.2; rw [← hv2, ← hv3]; exact this
      obtain ⟨B1', c1', rfl, _⟩ := o1.im
      obtain ⟨B2', c2', rfl, _⟩ := o2.im
      obtain ⟨B3', c3', rfl, _⟩ := o3.im
      have h1 := tmp_of hv1
      have h2 := tmp_of hv2
      have h3 := tmp_of hv3
      have hK0 := Lib.hid hK
      clear hK hE hF hR hJ
      unfold Oper.wp
      go_simp
      exact hK0.out _ _ (fun _ => Nx.refl _) (fun h => by cases h) ⟨_, _, _, rfl, ⟨o1, o2, o3⟩, p1, p2, p3⟩ (fun h => by cases h)
    · obtain rfl := Option.some.inj ho
      obtain ⟨v1, v2, v3, e1, ⟨o1, o2, o3⟩, pp⟩ : OD w1 (w.heap.size + 2) (a1.tmps.getD 15 undef) x1 x2 x3 := hE ⟨12, .data⟩ (by simp) rfl
      obtain ⟨z1, z2, z3, hb⟩ := hJ
      obtain ⟨B1', c1', rfl, _⟩ := o1.im
      obtain ⟨B2', c2', rfl, _⟩ := o2.im
      obtain ⟨B3', c3', rfl, _⟩ := o3.im
      have q1 := hb.cell 0 rfl
      have q2 := hb.cell 1 rfl
      have q3 := hb.cell 2 rfl
      have u1 := hb.frozen 0
      have u2 := hb.frozen 1
      have u3 := hb.frozen 2
      have e2 := tmp_of e1
      have HB := Lib.hid (((hb.put 0 (.slice B1' x1.length c1')).put 1 (.slice B2' x2.length c2')).put 2 (.slice B3' x3.length c3'))
      have hK0 := Lib.hid hK
      have O1 := Lib.hid o1
      have O2 := Lib.hid o2
      have O3 := Lib.hid o3
      have HOS := Lib.hid (show OD w1 (w.heap.size + 2) (.agg #[.slice B1' x1.length c1', .slice B2' x2.length c2', .slice B3' x3.length c3']) x1 x2 x3 from ⟨_, _, _, rfl, ⟨o1, o2, o3⟩, pp⟩)
      clear hK hE hF hR hb o1 o2 o3 e1 pp
      unfold Oper.wp
      go_simp
      have hg := grown_trans (grown_trans (grown_set w1 (w.heap.size + 1) 0 (.slice B1' x1.length c1')) (grown_set _ (w.heap.size + 1) 1 (.slice B2' x2.length c2'))) (grown_set _ (w.heap.size + 1) 2 (.slice B3' x3.length c3'))
      exact hK0.out undef _ (fun h => absurd rfl h) (fun _ => ⟨hg, _, _, _, HB.out⟩) ⟨_, _, _, HB.out, HOS.out.kept (by omega) hg⟩ (fun _ => rfl)
    · cases ho
  · intro a1 w1 hF hJ hR hP
    have f1 : a1.tmps[1]?.getD undef = .pointer (some ⟨w.heap.size, 0, none⟩) := tmp_of (hF.2.2 1 (by kernel_rfl))
    have f2 : a1.tmps[2]?.getD undef = .pointer (some ⟨w.heap.size + 1, 0, none⟩) := tmp_of (hF.2.2 2 (by kernel_rfl))
    have fd : a1.defers = [] := hF.1
    obtain ⟨v1, v2, v3, hb, ho⟩ : ∃ v1 v2 v3, Bx w1 (w.heap.size + 1) 26 [v1, v2, v3] ∧ OD w1 (w.heap.size + 2) (.agg #[v1, v2, v3]) x1 x2 x3 := hP 13 (by decide)
    have q1 := hb.cell 0 rfl
    have q2 := hb.cell 1 rfl
    have q3 := hb.cell 2 rfl
    have HO := Lib.hid ho
    have HN := Lib.hid (nx_grown N0.out hR (by omega))
    clear hF hJ hR hP hb ho
    go_wp2
    try simp only [Exit.inBlock, Exit.then]
    refine bodyPost_ret (by simp [results, Try.results23, go_sem, f2, q1, q2, q3]; try rfl) fd ?_
    exact ⟨_, rfl, OD.low HO.out (by omega), HN.out⟩
end Go.Proofs.Ytndapcbjcannhaa
