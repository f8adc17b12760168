/- The walk of VerifyConcatenation. Conditions: the table of opcodes holds what the program's text lays; programs that read as lists. -/
import Derived.Test.YtdpccnpaajhliaaDoorING
import Derived.Test.YtdpccnpaajhliaaDoorIN8
import Derived.Test.YtdpccnpaajhliaaDoorINBw
namespace Go.Proofs.YtdpccnpaajhliaaDoor
open Go.RowKit

theorem RdC.take {w : World} {ad : Addr} {code : List In4} (h : RdC w (some ad) code) (n : Nat) : RdC w (some ad) (code.take n) := fun k x hk => by
  rw [List.getElem?_take] at hk
  split at hk
  · exact h k x hk
  · cases hk
def catK (n : Nat) (p q : List In4) (j : Nat) : List In4 := p.take n ++ (q.take j).map (shf n)
theorem catK_zero (n : Nat) (p q : List In4) : catK n p q 0 = p.take n := by simp [catK]
theorem catK_succ {n : Nat} {p q : List In4} {j : Nat} {x : In4} (h : q[j]? = some x) : catK n p q (j + 1) = catK n p q j ++ [shf n x] := by
  unfold catK; rw [List.take_add_one, h]; simp
theorem catK_all (n : Nat) (p q : List In4) : catK n p q q.length = cat n p q := by simp [catK, cat]
def xV (x : In4) : List Value := [.int .i64 x.op, .int .i64 x.k, .int .i64 x.n, .int .i64 x.t]
theorem xsrc (w : World) (o : Obj) (x : In4) : ∀ j u, (xV x)[j]? = some u → ((w.alloc o).alloc (.cells #[.int .i64 x.op, .int .i64 x.k, .int .i64 x.n, .int .i64 x.t] 44)).cell? ((⟨w.heap.size + 1, 0, none⟩ : Addr).add j) = some u := fun j u hj => by
  have h := (bx_new (w.alloc o) 44 (xV x)).cell j hj
  rw [show (w.alloc o).heap.size = w.heap.size + 1 by simp] at h
  rw [Addr.add_lit, Nat.zero_add]
  exact h
theorem ins_snoc4 (l : List In4) (x : In4) : ins (l ++ [x]) = ins l ++ xV x := by rw [ins_app7]; rfl
set_option maxHeartbeats 6400000 in
set_option maxRecDepth 100000 in
theorem law7_concat (i1 q1 m1 e1 : Int) (A1 : Option Addr) (code1 : List In4) (n1 c1 : Nat) (i2 q2 m2 e2 : Int) (A2 : Option Addr) (code2 : List In4) (n2 c2 : Nat) (hn1 : code1.length = n1 ∧ n1 ≤ maxLen) (hn2 : code2.length = n2 ∧ n2 ≤ maxLen)
    (w : World) (hr1 : RdC w A1 code1) (hr2 : RdC w A2 code2) (hc1 : n1 ≤ c1) (he : Ev w) :
    Calls Tryd.prog 6 #[pgV i1 q1 m1 e1 A1 n1 c1, pgV i2 q2 m2 e2 A2 n2 c2] w fun r w' => r = .returned (.bool true) ∧ Nx w w' := by
  have hl1 := hn1.2
  have hl2 := hn2.2
  have V1 := Lib.hid (fun w' (h : Nx w w') => valid_any i1 q1 m1 e1 A1 code1 n1 c1 hn1.1 hn1.2 w' (hr1.nx h) (he.nx h))
  have V2 := Lib.hid (fun w' (h : Nx w w') => valid_any i2 q2 m2 e2 A2 code2 n2 c2 hn2.1 hn2.2 w' (hr2.nx h) (he.nx h))
  have K1 := Lib.hid (fun w' (h : Nx w w') => check_any i1 q1 m1 e1 A1 code1 n1 c1 hn1.1 hn1.2 w' (hr1.nx h) (he.nx h))
  have K2 := Lib.hid (fun w' (h : Nx w w') => check_any i2 q2 m2 e2 A2 code2 n2 c2 hn2.1 hn2.2 w' (hr2.nx h) (he.nx h))
  have D1 := Lib.hid (fun (hs : n1 ≤ 1000000) w' (h : Nx w w') => depths_any A1 code1 n1 c1 hn1.1 hs w' (hr1.nx h))
  have AL := Lib.hid (fun w' (h : Nx w w') => alive7_any w' (he.nx h))
  obtain ⟨B1, hB1⟩ : ∃ B, decide ((ckA i1 q1 m1 e1 code1).2.2 = 0) = B := ⟨_, rfl⟩
  obtain ⟨B2, hB2⟩ : ∃ B, decide ((ckA i2 q2 m2 e2 code2).2.2 = 0) = B := ⟨_, rfl⟩
  rw [hB1] at V1
  rw [hB2] at V2
  have HB1 := Lib.hid hB1
  have HB2 := Lib.hid hB2
  clear hB1 hB2
  have HR1 := Lib.hid hr1
  have HR2 := Lib.hid hr2
  have HE := Lib.hid he
  have HL1 := Lib.hid hn1.1
  have HL2 := Lib.hid hn2.1
  clear hn1 hn2 hr1 hr2 he
  unfold maxLen at hl1 hl2
  have N0 := Lib.hid (show Nx w ((w.alloc (.cells #[.int .i64 i1, .int .i64 q1, .int .i64 m1, .int .i64 e1, .slice A1 n1 c1] 26)).alloc (.cells #[.int .i64 i2, .int .i64 q2, .int .i64 m2, .int .i64 e2, .slice A2 n2 c2] 26)) from (Nx.one _ _).alloc _)
  have X1 := Lib.hid ((bx_new w 26 (pgC i1 q1 m1 e1 A1 n1 c1)).nx (Nx.one _ (.cells #[.int .i64 i2, .int .i64 q2, .int .i64 m2, .int .i64 e2, .slice A2 n2 c2] 26)))
  have X2 := Lib.hid (bx_new (w.alloc (.cells #[.int .i64 i1, .int .i64 q1, .int .i64 m1, .int .i64 e1, .slice A1 n1 c1] 26)) 26 (pgC i2 q2 m2 e2 A2 n2 c2))
  rw [show (w.alloc (.cells #[.int .i64 i1, .int .i64 q1, .int .i64 m1, .int .i64 e1, .slice A1 n1 c1] 26)).heap.size = w.heap.size + 1 by simp] at X2
  unfold pgV at V1 V2 K1 K2 ⊢
  go_enter Tryd.func6, Tryd.ntmps6
  have x4 := X1.out.cell 4 rfl
  have y4 := X2.out.cell 4 rfl
  have x0 := X1.out.cell 0 rfl
  have x1 := X1.out.cell 1 rfl
  have x2 := X1.out.cell 2 rfl
  have x3 := X1.out.cell 3 rfl
  by_cases hb1 : 300 < n1
  · have hbi : (300 : Int) < (n1 : Int) := by omega
    go_wp2_with fail
    refine (AL.out _ N0.out).mono ?_
    rintro r w1 ⟨rfl, g1⟩
    go_wp2_with fail
    go_ret
    exact ⟨rfl, N0.out.trans g1⟩
  have hbi1 : ¬ (300 : Int) < (n1 : Int) := by omega
  by_cases hb2 : 300 < n2
  · have hbi : (300 : Int) < (n2 : Int) := by omega
    go_wp2_with fail
    refine (AL.out _ N0.out).mono ?_
    rintro r w1 ⟨rfl, g1⟩
    go_wp2_with fail
    go_ret
    exact ⟨rfl, N0.out.trans g1⟩
  have hbi2 : ¬ (300 : Int) < (n2 : Int) := by omega
  go_wp2_with fail
  clear x0 x1 x2 x3 x4 y4
  rw [show (w.alloc (.cells (pgC i1 q1 m1 e1 A1 n1 c1).toArray 26)) = w.alloc (.cells #[.int .i64 i1, .int .i64 q1, .int .i64 m1, .int .i64 e1, .slice A1 n1 c1] 26) from rfl] at X1
  rw [show ((w.alloc (.cells #[.int .i64 i1, .int .i64 q1, .int .i64 m1, .int .i64 e1, .slice A1 n1 c1] 26)).alloc (.cells (pgC i2 q2 m2 e2 A2 n2 c2).toArray 26)) = (w.alloc (.cells #[.int .i64 i1, .int .i64 q1, .int .i64 m1, .int .i64 e1, .slice A1 n1 c1] 26)).alloc (.cells #[.int .i64 i2, .int .i64 q2, .int .i64 m2, .int .i64 e2, .slice A2 n2 c2] 26) from rfl] at X2
  generalize (w.alloc (.cells #[.int .i64 i1, .int .i64 q1, .int .i64 m1, .int .i64 e1, .slice A1 n1 c1] 26)).alloc (.cells #[.int .i64 i2, .int .i64 q2, .int .i64 m2, .int .i64 e2, .slice A2 n2 c2] 26) = W at *
  generalize w.heap.size + 1 = g2 at *
  generalize w.heap.size = g1 at *
  have S1 := Lib.hid (show ∀ w', Nx W w' → w'.cell? ⟨g1, 0, none⟩ = some (.int .i64 i1) ∧ w'.cell? ⟨g1, 1, none⟩ = some (.int .i64 q1) ∧ w'.cell? ⟨g1, 2, none⟩ = some (.int .i64 m1) ∧ w'.cell? ⟨g1, 3, none⟩ = some (.int .i64 e1) ∧ w'.cell? ⟨g1, 4, none⟩ = some (.slice A1 n1 c1) from fun w' h =>
    ⟨(X1.out.nx h).cell 0 rfl, (X1.out.nx h).cell 1 rfl, (X1.out.nx h).cell 2 rfl, (X1.out.nx h).cell 3 rfl, (X1.out.nx h).cell 4 rfl⟩)
  have S2 := Lib.hid (show ∀ w', Nx W w' → w'.cell? ⟨g2, 0, none⟩ = some (.int .i64 i2) ∧ w'.cell? ⟨g2, 1, none⟩ = some (.int .i64 q2) ∧ w'.cell? ⟨g2, 2, none⟩ = some (.int .i64 m2) ∧ w'.cell? ⟨g2, 3, none⟩ = some (.int .i64 e2) ∧ w'.cell? ⟨g2, 4, none⟩ = some (.slice A2 n2 c2) from fun w' h =>
    ⟨(X2.out.nx h).cell 0 rfl, (X2.out.nx h).cell 1 rfl, (X2.out.nx h).cell 2 rfl, (X2.out.nx h).cell 3 rfl, (X2.out.nx h).cell 4 rfl⟩)
  refine (V1.out W N0.out).mono ?_
  rintro r w1 ⟨rfl, k1⟩
  have M1 := Lib.hid k1
  clear k1
  cases B1
  · go_wp2_with fail
    refine (AL.out _ (N0.out.trans M1.out)).mono ?_
    rintro r w2 ⟨rfl, k2⟩
    go_wp2_with fail
    go_ret
    exact ⟨rfl, N0.out.trans (M1.out.trans k2)⟩
  have VP := Lib.hid (Vd.of (of_decide_eq_true HB1.out))
  obtain ⟨y0, y1, y2, y3, y4⟩ := S2.out w1 M1.out
  go_wp2_with fail
  refine (V2.out w1 (N0.out.trans M1.out)).mono ?_
  rintro r w2 ⟨rfl, k2⟩
  have M2 := Lib.hid (M1.out.trans k2)
  clear k2 y0 y1 y2 y3 y4
  cases B2
  · go_wp2_with fail
    refine (AL.out _ (N0.out.trans M2.out)).mono ?_
    rintro r w3 ⟨rfl, k3⟩
    go_wp2_with fail
    go_ret
    exact ⟨rfl, N0.out.trans (M2.out.trans k3)⟩
  have VQ := Lib.hid (Vd.of (of_decide_eq_true HB2.out))
  obtain ⟨y0, y1, y2, y3, y4⟩ := S2.out w2 M2.out
  obtain ⟨x0, x1, x2, x3, x4⟩ := S1.out w2 M2.out
  by_cases hs : i1 = i2 ∧ q1 = q2 ∧ m1 = m2 ∧ e1 = e2
  rotate_left
  · go_wp2_with fail
    all_goals first
      | exact absurd ⟨by assumption, by assumption, by assumption, by assumption⟩ hs
      | (refine (AL.out w2 (N0.out.trans M2.out)).mono ?_
         rintro r w3 ⟨rfl, k3⟩
         go_wp2_with fail
         go_ret
         exact ⟨rfl, N0.out.trans (M2.out.trans k3)⟩)
  obtain ⟨rfl, rfl, rfl, rfl⟩ := hs
  go_wp2_with fail
  have hpos1 := VP.out.pos
  have hpos2 := VQ.out.pos
  rw [HL1.out] at hpos1
  rw [HL2.out] at hpos2
  refine (D1.out (by omega) w2 (N0.out.trans M2.out)).mono ?_
  rintro r w3 ⟨hn3, hd⟩
  have M3 := Lib.hid (M2.out.trans hn3)
  clear hn3 x0 x1 x2 x3 x4 y0 y1 y2 y3 y4
  rcases hd with ⟨_, gl, cl, rfl, hrd⟩ | ⟨k, hf, hk, _⟩
  rotate_left
  · exact absurd (hf.symm.trans (fst_none VP.out.dp)) (by omega)
  obtain ⟨ad1, rfl, _⟩ := HR1.out 0 _ (List.getElem?_eq_getElem (by rw [HL1.out]; exact hpos1))
  rw [HL1.out]
  obtain ⟨N, rfl⟩ : ∃ N, n1 = N + 1 := ⟨n1 - 1, by omega⟩
  have d0 := hrd.lit (dps_at (show N < code1.length by rw [HL1.out]; omega))
  obtain ⟨D, hD⟩ : ∃ D, dAt code1 N = D := ⟨_, rfl⟩
  rw [hD] at d0
  have HD := Lib.hid hD
  clear hrd hD
  have cN : ((N + 1 : Nat) : Int) = (N : Int) + 1 := by omega
  rw [cN]
  rw [cN] at hbi1
  clear hbi2
  obtain ⟨x0, x1, x2, x3, x4⟩ := S1.out w3 M3.out
  by_cases h0 : D = 0
  rotate_left
  · have t1 : ((D : Int) == 0) = false := by rw [beq_eq_false_iff_ne]; omega
    have t2 : ((D : Int) != 0) = true := by rw [bne_iff_ne]; omega
    clear h0
    go_wp2_with fail
    refine (AL.out w3 (N0.out.trans M3.out)).mono ?_
    rintro r w4 ⟨rfl, k4⟩
    go_wp2_with fail
    go_ret
    exact ⟨rfl, N0.out.trans (M3.out.trans k4)⟩
  subst h0
  obtain ⟨i0, hi, hz0, hz1, hz2⟩ := info_parts infoIns
  have M4 := Lib.hid (show Nx w3 (w3.alloc (.cells #[] 44)) from Nx.one _ _)
  have O0 := Lib.hid (World.ownsRow_lit (base := w3.heap.size) (e := 44) (size := 4) w3 #[] 0 (Nat.le_refl _) (by unfold maxLen; omega) rfl)
  have HSRC := Lib.hid (ins_src (RdC.take (HR1.out.nx (N0.out.trans (M3.out.trans M4.out))) N))
  have HLT := Lib.hid (show (ins (code1.take N)).length = N * 4 by rw [ins_len, List.length_take, HL1.out]; congr 1; omega)
  obtain ⟨_, _, _, _, x4b⟩ := S1.out (w3.alloc (.cells #[] 44)) (M3.out.trans M4.out)
  go_wp2_with (first | (at_builtin; refine wpList_append_own _ rfl (.tmp 76) (.tmp 80) 24 rfl w3.heap.size 44 i0 (.agg #[.int .i64 0, .int .i64 0, .int .i64 0, .int .i64 0]) 4 32 Tryd.underlying24 hi hz0 hz1 hz2 rfl (by decide) _ _ _ rfl O0.out ad1 N c1 (ins (code1.take N)) rfl HLT.out HSRC.out (ins_one _) (by unfold maxLen; omega) (by omega) (by simp) ?_))
  intro v5 w5 ho hg hnn
  have M5 := Lib.hid (show Nx W w5 from M3.out.trans (grown_nx ((Nx.refl w3).alloc _) hg O0.out (Nat.le_refl _)))
  have O5 := Lib.hid (show w5.ownsRow w3.heap.size 44 4 v5 (N + 0) (ins (catK N code1 code2 0)) by rw [catK_zero]; exact ho)
  have NN := Lib.hid (show Nx W w5 → w3.heap.size ≤ w5.heap.size from fun _ => (grown_nx ((Nx.refl w3).alloc _) hg O0.out (Nat.le_refl _)).size)
  have HSZ := Lib.hid (NN.out M5.out)
  have HKK := Lib.hid (grown_nx ((Nx.refl w3).alloc _) hg O0.out (Nat.le_refl _))
  clear ho hg hnn NN O0 HSRC HLT x0 x1 x2 x3 x4 x4b d0 M4
  obtain ⟨_, _, _, _, y4⟩ := S2.out w5 M5.out
  go_wp2_with fail
  clear y4
  go_loopw [9, 85] (fun s i wr => ∃ j : Nat, j ≤ n2 ∧ i = .int .i64 j ∧ wr.ownsRow w3.heap.size 44 4 s (N + j) (ins (catK N code1 code2 j)) ∧ Nx w3 wr) (fun _ i _ => n2 - (intOf i).toNat)
  case atStart => exact ⟨0, Nat.zero_le _, rfl, O5.out, HKK.out⟩
  case round =>
    obtain ⟨j, hj, rfl, hown, hnx⟩ := hrel
    have HO := Lib.hid hown
    have HN := Lib.hid hnx
    have hsz := Lib.hid hnx.size
    clear hown hnx O5 M5 HKK
    by_cases hjn : j < n2
    · have hji : (j : Int) < (n2 : Int) := by omega
      obtain ⟨x, hx⟩ := code_at code2 j (by rw [HL2.out]; exact hjn)
      have HX := Lib.hid hx
      have HJ := Lib.hid (fun h : x.op = 15 => VQ.out.jump hx h)
      obtain ⟨ad2, rfl, f0, f1, f2, f3⟩ := (HR2.out.nx (N0.out.trans (M3.out.trans HN.out))).four hx
      obtain ⟨op, kk, nn, t⟩ := x
      simp only at f0 f1 f2 f3 HJ
      clear hx
      have K1' := Lib.hid (show Nx wr (wr.alloc (.cells #[.int .i64 op, .int .i64 kk, .int .i64 nn, .int .i64 t] 44)) from Nx.one _ _)
      have XB := Lib.hid (bx_new wr 44 [.int .i64 op, .int .i64 kk, .int .i64 nn, .int .i64 t])
      have b0 := XB.out.cell 0 rfl
      have b1 := XB.out.cell 1 rfl
      have b2 := XB.out.cell 2 rfl
      have b3 := XB.out.cell 3 rfl
      obtain ⟨T, hT⟩ : ∃ T, (if op = 15 then t + (N : Int) else t) = T := ⟨_, rfl⟩
      have HC := Lib.hid (show catK N code1 code2 (j + 1) = catK N code1 code2 j ++ [⟨op, kk, nn, T⟩] by rw [catK_succ HX.out, ← hT]; rfl)
      have HTT := Lib.hid hT
      clear hT
      by_cases h15 : op = 15
      · subst h15
        obtain ⟨j0, j1⟩ := HJ.out rfl
        have j1' : t < (n2 : Int) := by rw [← HL2.out]; exact j1
        have hTe : T = t + (N : Int) := by rw [← HTT.out]; rfl
        clear j1
        subst hTe
        go_wp2_with (first | (at_builtin; refine wpList_append_own _ rfl (.tmp 97) (.tmp 104) 24 rfl w3.heap.size 44 i0 (.agg #[.int .i64 0, .int .i64 0, .int .i64 0, .int .i64 0]) 4 32 Tryd.underlying24 hi hz0 hz1 hz2 rfl (by decide) _ _ _ rfl (World.ownsRow.alloc (World.ownsRow.alloc HO.out _) _) ⟨wr.heap.size + 1, 0, none⟩ 1 1 (xV ⟨15, kk, nn, t + (N : Int)⟩) rfl rfl (xsrc wr _ ⟨15, kk, nn, t + (N : Int)⟩) (fun u hu => by simp [xV] at hu; rcases hu with rfl | rfl | rfl | rfl <;> rfl) (by unfold maxLen; omega) (by omega) (by have := hsz.out; simp; omega) ?_))
        intro v' w' ho hg _
        have N1 := Lib.hid (show Nx w3 w' from Below.grown ((HN.out.trans K1'.out).alloc _) hg ((HN.out.trans K1'.out).alloc _).size (fun g e => own_ge7 HO.out e))
        have O1 := Lib.hid (show w'.ownsRow w3.heap.size 44 4 v' (N + (j + 1)) (ins (catK N code1 code2 (j + 1))) by rw [HC.out, ins_snoc4]; exact ho)
        clear ho hg HO HN f0 f1 f2 f3 b0 b1 b2 b3
        go_wp2_with fail
        go_roundw
        case rel => exact ⟨j + 1, by omega, by go_num, O1.out, N1.out⟩
        case measure => simp [intOf]; omega
      · have hTe : t = T := by rw [← HTT.out]; exact (if_neg h15).symm
        have t1 : (op == 15) = false := by simpa using h15
        clear h15
        subst hTe
        go_wp2_with (first | (at_builtin; refine wpList_append_own _ rfl (.tmp 97) (.tmp 104) 24 rfl w3.heap.size 44 i0 (.agg #[.int .i64 0, .int .i64 0, .int .i64 0, .int .i64 0]) 4 32 Tryd.underlying24 hi hz0 hz1 hz2 rfl (by decide) _ _ _ rfl (World.ownsRow.alloc (World.ownsRow.alloc HO.out _) _) ⟨wr.heap.size + 1, 0, none⟩ 1 1 (xV ⟨op, kk, nn, t⟩) rfl rfl (xsrc wr _ ⟨op, kk, nn, t⟩) (fun u hu => by simp [xV] at hu; rcases hu with rfl | rfl | rfl | rfl <;> rfl) (by unfold maxLen; omega) (by omega) (by have := hsz.out; simp; omega) ?_))
        intro v' w' ho hg _
        have N1 := Lib.hid (show Nx w3 w' from Below.grown ((HN.out.trans K1'.out).alloc _) hg ((HN.out.trans K1'.out).alloc _).size (fun g e => own_ge7 HO.out e))
        have O1 := Lib.hid (show w'.ownsRow w3.heap.size 44 4 v' (N + (j + 1)) (ins (catK N code1 code2 (j + 1))) by rw [HC.out, ins_snoc4]; exact ho)
        clear ho hg HO HN f0 f1 f2 f3 b0 b1 b2 b3
        go_wp2_with fail
        go_roundw
        case rel => exact ⟨j + 1, by omega, by go_num, O1.out, N1.out⟩
        case measure => simp [intOf]; omega
    · obtain rfl : n2 = j := by omega
      have hji : ¬ (n2 : Int) < (n2 : Int) := by omega
      have hca := catK_all N code1 code2
      rw [HL2.out] at hca
      have ho2 := HO.out
      rw [hca] at ho2
      obtain ⟨A, c, rfl, hr⟩ := own_code7 ho2 (by rw [cat_len HL1.out, HL2.out])
      clear hca ho2
      have HR := Lib.hid hr
      have HM := Lib.hid (M3.out.trans HN.out)
      have HVA := Lib.hid (cat_ok (r := code2) HL1.out HD.out VP.out VQ.out (by rw [HL2.out]; omega))
      clear hr HO
      obtain ⟨x0, x1, x2, x3, x4⟩ := S1.out wr HM.out
      go_wp2_with fail
      refine (K1.out wr (N0.out.trans HM.out)).mono ?_
      rw [VP.out.ans, HL1.out]
      rintro r w6 ⟨rfl, k6⟩
      have P6 := Lib.hid (HM.out.trans k6)
      have R6 := Lib.hid (HR.out.nx k6)
      clear k6 x0 x1 x2 x3 x4 hji HR
      obtain ⟨y0, y1, y2, y3, y4⟩ := S2.out w6 P6.out
      go_wp2_with fail
      refine (K2.out w6 (N0.out.trans P6.out)).mono ?_
      rw [VQ.out.ans, HL2.out]
      rintro r w7 ⟨rfl, k7⟩
      have P7 := Lib.hid (P6.out.trans k7)
      have R7 := Lib.hid (R6.out.nx k7)
      clear k7 y0 y1 y2 y3 y4 R6 P6
      obtain ⟨x0, x1, x2, x3, _⟩ := S1.out w7 P7.out
      have CK := Lib.hid (check_any i1 q1 m1 e1 A (cat N code1 code2) (N + n2) c (by rw [cat_len HL1.out, HL2.out]) (by unfold maxLen; omega) w7 R7.out (HE.out.nx (N0.out.trans P7.out)))
      rw [HVA.out.ans, cat_mx HL1.out HD.out, cat_len HL1.out, HL2.out] at CK
      unfold pgV at CK
      go_wp2_with fail
      refine CK.out.mono ?_
      rintro r w8 ⟨rfl, k8⟩
      have P8 := Lib.hid (P7.out.trans k8)
      clear k8 x0 x1 x2 x3 CK
      generalize mxD code1 = a at *
      generalize mxD code2 = b at *
      have hmx : ((max a b : Nat) : Int) = max (a : Int) (b : Int) := by omega
      simp only [hmx]
      go_wp2_with fail
      refine (AL.out w8 (N0.out.trans P8.out)).mono ?_
      rintro r w9 ⟨rfl, k9⟩
      go_wp2_with fail
      go_ret
      exact ⟨rfl, N0.out.trans (P8.out.trans k9)⟩
end Go.Proofs.YtdpccnpaajhliaaDoor
