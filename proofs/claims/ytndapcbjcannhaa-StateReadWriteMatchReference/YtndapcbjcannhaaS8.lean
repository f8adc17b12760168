/- What the reference's New returns. Conditions: none. -/
import Derived.Test.YtndapcbjcannhaaS7
namespace Go.Proofs.Ytndapcbjcannhaa
open Go.RowKit

set_option maxHeartbeats 1600000 in
set_option maxRecDepth 100000 in
theorem refNew_no (i q m e : Int) (h : ¬ sizeOK i q m e) (w : World) :
    Calls Try.prog 11 #[.agg #[.int .i64 i, .int .i64 q, .int .i64 m, .int .i64 e]] w fun r w' => r = .returned (.tuple #[.agg #[.slice none 0 0, .slice none 0 0, .slice none 0 0], .int .i64 3]) ∧ Nx w w' := by
  have CS := Lib.hid (refCheckSize_any i q m e)
  rw [csz_no h] at CS
  clear h
  have N0 := Lib.hid (show Nx w ((w.alloc (.cells #[.int .i64 i, .int .i64 q, .int .i64 m, .int .i64 e] 23)).alloc (.cells #[.slice none 0 0, .slice none 0 0, .slice none 0 0] 26)) from (Nx.one _ _).alloc _)
  have XR := Lib.hid (bx_new (w.alloc (.cells #[.int .i64 i, .int .i64 q, .int .i64 m, .int .i64 e] 23)) 26 [.slice none 0 0, .slice none 0 0, .slice none 0 0])
  rw [show (w.alloc (.cells #[.int .i64 i, .int .i64 q, .int .i64 m, .int .i64 e] 23)).heap.size = w.heap.size + 1 by simp] at XR
  go_enter Try.func11, Try.ntmps11
  go_wp2_with fail
  refine (CS.out _).mono ?_
  rintro r w1 ⟨rfl, h1⟩
  have XR1 := XR.out.nx h1
  have r0 := XR1.cell 0 rfl
  have r1 := XR1.cell 1 rfl
  have r2 := XR1.cell 2 rfl
  have q0 := XR1.frozen 0
  have q1 := XR1.frozen 1
  have q2 := XR1.frozen 2
  have z0 := (XR1.put 0 (.slice none 0 0)).cell 0 rfl
  have z1 := ((XR1.put 0 (.slice none 0 0)).put 1 (.slice none 0 0)).cell 1 rfl
  have z2 := (((XR1.put 0 (.slice none 0 0)).put 1 (.slice none 0 0)).put 2 (.slice none 0 0)).cell 2 rfl
  have H1 := Lib.hid (N0.out.trans h1)
  clear h1 XR1
  go_wp2
  try simp only [Exit.inBlock, Exit.then]
  refine bodyPost_ret (by simp [results, Try.results11, go_sem, z0, z1, z2]; try rfl) rfl ?_
  exact ⟨rfl, ((H1.out.set (by omega) _).set (by omega) _).set (by omega) _⟩

theorem made_ow (w : World) (n : Nat) (hn : n ≤ 1000000) {B : Nat} (hB : B ≤ w.heap.size) : Ow (w.alloc (.cells (madeCells #[.bool false] n) 4)) B (.slice (some ⟨w.heap.size, 0, none⟩) n n) (List.replicate n false) := by
  have h := (made_own w n hn).low hB
  unfold OwB at h
  unfold Ow
  simpa using h

def psi11 (h b B q m e : Nat) (j : Nat) (v : Value) (w : World) : Prop := match j with
  | 0 => v = .pointer (some ⟨h, 1, none⟩)
  | 1 => v = .int .i64 q
  | 2 => Ow w B v (List.replicate q false)
  | 3 => v = .pointer (some ⟨h, 2, none⟩)
  | 4 => v = .int .i64 m
  | 5 => Ow w B v (List.replicate m false)
  | 6 => v = .pointer (some ⟨h, 3, none⟩)
  | 7 => v = .int .i64 e
  | 8 => Ow w B v (List.replicate e false)
  | 9 => OS w B v (List.replicate q false) (List.replicate m false) (List.replicate e false)
  | 10 => ∃ v1 v2 v3, Bx w b 26 [v1, v2, v3] ∧ OS w B (.agg #[v1, v2, v3]) (List.replicate q false) (List.replicate m false) (List.replicate e false)
  | 11 => v = .int .i64 0
  | _ => False

set_option maxHeartbeats 3200000 in
set_option maxRecDepth 100000 in
theorem refNew_ok (i q m e : Nat) (hi : i ≤ 256) (hq : q ≤ 256) (hm : m ≤ 256) (he : e ≤ 16384) (w : World) :
    Calls Try.prog 11 #[.agg #[.int .i64 i, .int .i64 q, .int .i64 m, .int .i64 e]] w fun r w' => ∃ v, r = .returned (.tuple #[v, .int .i64 0]) ∧ OS w' w.heap.size v (List.replicate q false) (List.replicate m false) (List.replicate e false) ∧ Nx w w' := by
  have CS := Lib.hid (refCheckSize_any i q m e)
  rw [csz_yes (show sizeOK i q m e by unfold sizeOK; omega)] at CS
  have N0 := Lib.hid (show Nx w ((w.alloc (.cells #[.int .i64 i, .int .i64 q, .int .i64 m, .int .i64 e] 23)).alloc (.cells #[.slice none 0 0, .slice none 0 0, .slice none 0 0] 26)) from (Nx.one _ _).alloc _)
  have XR := Lib.hid (bx_new (w.alloc (.cells #[.int .i64 i, .int .i64 q, .int .i64 m, .int .i64 e] 23)) 26 [.slice none 0 0, .slice none 0 0, .slice none 0 0])
  rw [show (w.alloc (.cells #[.int .i64 i, .int .i64 q, .int .i64 m, .int .i64 e] 23)).heap.size = w.heap.size + 1 by simp] at XR
  have XS := Lib.hid ((bx_new w 23 [.int .i64 i, .int .i64 q, .int .i64 m, .int .i64 e]).nx (Nx.one _ (.cells #[.slice none 0 0, .slice none 0 0, .slice none 0 0] 26)))
  go_enter Try.func11, Try.ntmps11
  go_wp2_with fail
  refine (CS.out _).mono ?_
  rintro r w0 ⟨rfl, h0⟩
  have XS0 := Lib.hid (XS.out.nx h0)
  have XR0 := Lib.hid (XR.out.nx h0)
  have H0 := Lib.hid (N0.out.trans h0)
  have B0 := Lib.hid (show w.heap.size + 2 ≤ w0.heap.size by have := h0.size; simpa using this)
  clear h0
  go_wp2_with fail
  refine wp_region_free (by kernel_rfl) (by kernel_rfl) (by kernel_rfl) (fun u v => u.grownBy v (some (w.heap.size + 1))) (fun _ _ k => k.grown _) (fun _ _ _ => grown_trans) 10
    (fun w1 => ∃ v1 v2 v3, Bx w1 (w.heap.size + 1) 26 [v1, v2, v3]) (psi11 w.heap.size (w.heap.size + 1) (w.heap.size + 2) q m e) ?_ ?_ ?_ ⟨_, _, _, XR0.out⟩ ?_ ?_
  · intro j v u u' hj k hp
    unfold psi11 at hp ⊢
    split at hp
    case h_3 => exact hp.kept (by omega) k
    case h_6 => exact hp.kept (by omega) k
    case h_9 => exact hp.kept (by omega) k
    case h_10 => exact hp.kept (by omega) k
    case h_11 => exact absurd rfl hj
    all_goals exact hp
  · intro v u u' k hp
    obtain ⟨v1, v2, v3, hb, ho⟩ := hp
    exact ⟨v1, v2, v3, hb.nx k, ho.kept (b := w.heap.size + 1) (by omega) (k.grown _)⟩
  · rintro u u' k ⟨v1, v2, v3, hb⟩
    exact ⟨v1, v2, v3, hb.nx k⟩
  · intro i o ho a1 w1 K hF hJ hR hE hK
    have f1 : a1.tmps[1]?.getD undef = .pointer (some ⟨w.heap.size, 0, none⟩) := tmp_of (hF.2.2 1 (by kernel_rfl))
    have f2 : a1.tmps[2]?.getD undef = .pointer (some ⟨w.heap.size + 1, 0, none⟩) := tmp_of (hF.2.2 2 (by kernel_rfl))
    have XS1 : Bx w1 w.heap.size 23 [.int .i64 _, .int .i64 q, .int .i64 m, .int .i64 e] := (hR.block _ XS0.out.lt (by simp)).trans XS0.out
    have s1 := XS1.cell 1 rfl
    have s2 := XS1.cell 2 rfl
    have s3 := XS1.cell 3 rfl
    have hsz : w.heap.size + 2 ≤ w1.heap.size := Nat.le_trans B0.out hR.size
    have mk1 := run_make_row' (P := Try.prog) 24 4 (.bool false) 1 Try.underlying24 info4 rfl .i64 .i64 q (by omega) (by omega)
    have mk2 := run_make_row' (P := Try.prog) 24 4 (.bool false) 1 Try.underlying24 info4 rfl .i64 .i64 m (by omega) (by omega)
    have mk3 := run_make_row' (P := Try.prog) 24 4 (.bool false) 1 Try.underlying24 info4 rfl .i64 .i64 e (by omega) (by omega)
    rcases i with _ | _ | _ | _ | _ | _ | _ | _ | _ | _ | _ | _ | i
    · obtain rfl := Option.some.inj ho
      have hK0 := Lib.hid hK
      clear hK hE hF hR hJ
      unfold Oper.wp
      go_simp
      exact hK0.out _ _ (fun _ => Nx.refl _) (fun h => by cases h) rfl (fun h => by cases h)
    · obtain rfl := Option.some.inj ho
      have e1 : a1.tmps[11]?.getD undef = .pointer (some ⟨w.heap.size, 1, none⟩) := tmp_of (show a1.tmps.getD 11 undef = _ from hE ⟨0, .data⟩ (by simp) rfl)
      have hK0 := Lib.hid hK
      clear hK hE hF hR hJ
      unfold Oper.wp
      go_simp
      exact hK0.out _ _ (fun _ => Nx.refl _) (fun h => by cases h) rfl (fun h => by cases h)
    · obtain rfl := Option.some.inj ho
      have e1 : a1.tmps[12]?.getD undef = .int .i64 q := tmp_of (show a1.tmps.getD 12 undef = _ from hE ⟨1, .data⟩ (by simp) rfl)
      have hK0 := Lib.hid hK
      clear hK hE hF hR hJ
      unfold Oper.wp
      go_simp
      exact hK0.out _ _ (fun _ => Nx.one _ _) (fun h => by cases h) (made_ow w1 q (by omega) hsz) (fun h => by cases h)
    · obtain rfl := Option.some.inj ho
      have hK0 := Lib.hid hK
      clear hK hE hF hR hJ
      unfold Oper.wp
      go_simp
      exact hK0.out _ _ (fun _ => Nx.refl _) (fun h => by cases h) rfl (fun h => by cases h)
    · obtain rfl := Option.some.inj ho
      have e1 : a1.tmps[14]?.getD undef = .pointer (some ⟨w.heap.size, 2, none⟩) := tmp_of (show a1.tmps.getD 14 undef = _ from hE ⟨3, .data⟩ (by simp) rfl)
      have hK0 := Lib.hid hK
      clear hK hE hF hR hJ
      unfold Oper.wp
      go_simp
      exact hK0.out _ _ (fun _ => Nx.refl _) (fun h => by cases h) rfl (fun h => by cases h)
    · obtain rfl := Option.some.inj ho
      have e1 : a1.tmps[15]?.getD undef = .int .i64 m := tmp_of (show a1.tmps.getD 15 undef = _ from hE ⟨4, .data⟩ (by simp) rfl)
      have hK0 := Lib.hid hK
      clear hK hE hF hR hJ
      unfold Oper.wp
      go_simp
      exact hK0.out _ _ (fun _ => Nx.one _ _) (fun h => by cases h) (made_ow w1 m (by omega) hsz) (fun h => by cases h)
    · obtain rfl := Option.some.inj ho
      have hK0 := Lib.hid hK
      clear hK hE hF hR hJ
      unfold Oper.wp
      go_simp
      exact hK0.out _ _ (fun _ => Nx.refl _) (fun h => by cases h) rfl (fun h => by cases h)
    · obtain rfl := Option.some.inj ho
      have e1 : a1.tmps[17]?.getD undef = .pointer (some ⟨w.heap.size, 3, none⟩) := tmp_of (show a1.tmps.getD 17 undef = _ from hE ⟨6, .data⟩ (by simp) rfl)
      have hK0 := Lib.hid hK
      clear hK hE hF hR hJ
      unfold Oper.wp
      go_simp
      exact hK0.out _ _ (fun _ => Nx.refl _) (fun h => by cases h) rfl (fun h => by cases h)
    · obtain rfl := Option.some.inj ho
      have e1 : a1.tmps[18]?.getD undef = .int .i64 e := tmp_of (show a1.tmps.getD 18 undef = _ from hE ⟨7, .data⟩ (by simp) rfl)
      have hK0 := Lib.hid hK
      clear hK hE hF hR hJ
      unfold Oper.wp
      go_simp
      exact hK0.out _ _ (fun _ => Nx.one _ _) (fun h => by cases h) (made_ow w1 e (by omega) hsz) (fun h => by cases h)
    · obtain rfl := Option.some.inj ho
      obtain ⟨v1, hv1⟩ : ∃ v1, a1.tmps.getD 13 undef = v1 := ⟨_, rfl⟩
      obtain ⟨v2, hv2⟩ : ∃ v2, a1.tmps.getD 16 undef = v2 := ⟨_, rfl⟩
      obtain ⟨v3, hv3⟩ : ∃ v3, a1.tmps.getD 19 undef = v3 := ⟨_, rfl⟩
      have o1 : Ow w1 (w.heap.size + 2) v1 (List.replicate q false) := hv1 ▸ (show Ow w1 (w.heap.size + 2) (a1.tmps.getD 13 undef) _ from hE ⟨2, .data⟩ (by simp) rfl)
      have o2 : Ow w1 (w.heap.size + 2) v2 (List.replicate m false) := hv2 ▸ (show Ow w1 (w.heap.size + 2) (a1.tmps.getD 16 undef) _ from hE ⟨5, .data⟩ (by simp) rfl)
      have o3 : Ow w1 (w.heap.size + 2) v3 (List.replicate e false) := hv3 ▸ (show Ow w1 (w.heap.size + 2) (a1.tmps.getD 19 undef) _ from hE ⟨8, .data⟩ (by simp) rfl)
      obtain ⟨B1', c1', rfl, _⟩ := o1.im
      obtain ⟨B2', c2', rfl, _⟩ := o2.im
      obtain ⟨B3', c3', rfl, _⟩ := o3.im
      have h1 := tmp_of hv1
      have h2 := tmp_of hv2
      have h3 := tmp_of hv3
      have O1 := Lib.hid o1
      have O2 := Lib.hid o2
      have O3 := Lib.hid o3
      clear o1 o2 o3 hv1 hv2 hv3
      generalize (List.replicate q false).length = l1 at *
      generalize (List.replicate m false).length = l2 at *
      generalize (List.replicate e false).length = l3 at *
      have hK0 := Lib.hid hK
      clear hK hE hF hR hJ
      unfold Oper.wp
      go_simp
      exact hK0.out _ _ (fun _ => Nx.refl _) (fun h => by cases h) ⟨_, _, _, rfl, O1.out, O2.out, O3.out⟩ (fun h => by cases h)
    · obtain rfl := Option.some.inj ho
      obtain ⟨v1, v2, v3, e1, o1, o2, o3⟩ : OS w1 (w.heap.size + 2) (a1.tmps.getD 20 undef) (List.replicate q false) (List.replicate m false) (List.replicate e false) := hE ⟨9, .data⟩ (by simp) rfl
      obtain ⟨z1, z2, z3, hb⟩ := hJ
      obtain ⟨B1', c1', rfl, _⟩ := o1.im
      obtain ⟨B2', c2', rfl, _⟩ := o2.im
      obtain ⟨B3', c3', rfl, _⟩ := o3.im
      have O1 := Lib.hid o1
      have O2 := Lib.hid o2
      have O3 := Lib.hid o3
      have q1 := hb.cell 0 rfl
      have q2 := hb.cell 1 rfl
      have q3 := hb.cell 2 rfl
      have u1 := hb.frozen 0
      have u2 := hb.frozen 1
      have u3 := hb.frozen 2
      have e2 := tmp_of e1
      have hK0 := Lib.hid hK
      have HBX := Lib.hid hb
      clear hK hE hF hR hb o1 o2 o3 e1
      generalize (List.replicate q false).length = l1 at *
      generalize (List.replicate m false).length = l2 at *
      generalize (List.replicate e false).length = l3 at *
      unfold Oper.wp
      go_simp
      have hg := grown_trans (grown_trans (grown_set w1 (w.heap.size + 1) 0 (.slice B1' l1 c1')) (grown_set _ (w.heap.size + 1) 1 (.slice B2' l2 c2'))) (grown_set _ (w.heap.size + 1) 2 (.slice B3' l3 c3'))
      have HB := ((HBX.out.put 0 (.slice B1' l1 c1')).put 1 (.slice B2' l2 c2')).put 2 (.slice B3' l3 c3')
      exact hK0.out undef _ (fun h => absurd rfl h) (fun _ => ⟨hg, _, _, _, HB⟩) ⟨_, _, _, HB, OS.kept ⟨_, _, _, rfl, O1.out, O2.out, O3.out⟩ (by omega) hg⟩ (fun _ => rfl)
    · obtain rfl := Option.some.inj ho
      have hK0 := Lib.hid hK
      clear hK hE hF hR hJ
      unfold Oper.wp
      go_simp
      exact hK0.out _ _ (fun _ => Nx.refl _) (fun h => by cases h) rfl (fun h => by cases h)
    · cases ho
  · intro a1 w1 hF hJ hR hP
    have f1 : a1.tmps[1]?.getD undef = .pointer (some ⟨w.heap.size, 0, none⟩) := tmp_of (hF.2.2 1 (by kernel_rfl))
    have f2 : a1.tmps[2]?.getD undef = .pointer (some ⟨w.heap.size + 1, 0, none⟩) := tmp_of (hF.2.2 2 (by kernel_rfl))
    have f3 : a1.tmps[3]?.getD undef = .int .i64 0 := tmp_of (show a1.tmps.getD 3 undef = _ from hP 11 (by decide))
    have fd : a1.defers = [] := hF.1
    obtain ⟨v1, v2, v3, hb, ho⟩ : ∃ v1 v2 v3, Bx w1 (w.heap.size + 1) 26 [v1, v2, v3] ∧ OS w1 (w.heap.size + 2) (.agg #[v1, v2, v3]) (List.replicate q false) (List.replicate m false) (List.replicate e false) := hP 10 (by decide)
    have q1 := hb.cell 0 rfl
    have q2 := hb.cell 1 rfl
    have q3 := hb.cell 2 rfl
    have HO := Lib.hid ho
    have HN := Lib.hid (nx_grown H0.out hR (by omega))
    clear hF hJ hR hP hb ho
    go_wp2
    try simp only [Exit.inBlock, Exit.then]
    refine bodyPost_ret (by simp [results, Try.results11, go_sem, f2, f3, q1, q2, q3]; try rfl) fd ?_
    exact ⟨_, rfl, OS.low HO.out (by omega), HN.out⟩
end Go.Proofs.Ytndapcbjcannhaa
