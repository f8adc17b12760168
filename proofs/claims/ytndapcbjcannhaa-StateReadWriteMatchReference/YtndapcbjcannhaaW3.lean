/- The walk of StateMatchesReference, small states. Conditions: images that read as lists of bools, of at most a thousand. -/
import Derived.Test.YtndapcbjcannhaaW3a
namespace Go.Proofs.Ytndapcbjcannhaa
open Go.RowKit

set_option maxHeartbeats 6400000 in
set_option maxRecDepth 100000 in
theorem law3_small (si sq s3 se : Int) (A1 A2 A3 : Option Addr) (m1 m2 m3 c1 c2 c3 : Nat) (B1 B2 B3 : Option Addr) (n1 n2 n3 d1 d2 d3 : Nat) (x1 x2 x3 y1 y2 y3 : List Bool) (w : World) (hs : sm m1 m2 m3 ∧ sm n1 n2 n3) (hx1 : Im w A1 m1 c1 x1) (hx2 : Im w A2 m2 c2 x2) (hx3 : Im w A3 m3 c3 x3) (hy1 : Im w B1 n1 d1 y1) (hy2 : Im w B2 n2 d2 y2) (hy3 : Im w B3 n3 d3 y3) :
    Calls Try.prog 3 #[.agg #[.int .i64 si, .int .i64 sq, .int .i64 s3, .int .i64 se], .agg #[.slice A1 m1 c1, .slice A2 m2 c2, .slice A3 m3 c3], .agg #[.slice B1 n1 d1, .slice B2 n2 d2, .slice B3 n3 d3]] w fun e w' => e = .returned (.bool true) ∧ Nx w w' := by
  have N0 := Lib.hid (show Nx w ((((w.alloc (.cells #[.int .i64 si, .int .i64 sq, .int .i64 s3, .int .i64 se] 23)).alloc (.cells #[.slice A1 m1 c1, .slice A2 m2 c2, .slice A3 m3 c3] 26)).alloc (.cells #[.slice B1 n1 d1, .slice B2 n2 d2, .slice B3 n3 d3] 26)).alloc (.cells #[.slice A1 m1 c1, .slice A2 m2 c2, .slice A3 m3 c3, .slice B1 n1 d1, .slice B2 n2 d2, .slice B3 n3 d3] 26)) from (((Nx.one _ _).alloc _).alloc _).alloc _)
  have LG := Lib.hid (large2_no (w.heap.size + 1 + 1 + 1) A1 A2 A3 m1 m2 m3 c1 c2 c3 B1 B2 B3 n1 n2 n3 d1 d2 d3 hs ((((w.alloc (.cells #[.int .i64 si, .int .i64 sq, .int .i64 s3, .int .i64 se] 23)).alloc (.cells #[.slice A1 m1 c1, .slice A2 m2 c2, .slice A3 m3 c3] 26)).alloc (.cells #[.slice B1 n1 d1, .slice B2 n2 d2, .slice B3 n3 d3] 26)).alloc (.cells #[.slice A1 m1 c1, .slice A2 m2 c2, .slice A3 m3 c3, .slice B1 n1 d1, .slice B2 n2 d2, .slice B3 n3 d3] 26)) (by
    have := bx_new (((w.alloc (.cells #[.int .i64 si, .int .i64 sq, .int .i64 s3, .int .i64 se] 23)).alloc (.cells #[.slice A1 m1 c1, .slice A2 m2 c2, .slice A3 m3 c3] 26)).alloc (.cells #[.slice B1 n1 d1, .slice B2 n2 d2, .slice B3 n3 d3] 26)) 26 [.slice A1 m1 c1, .slice A2 m2 c2, .slice A3 m3 c3, .slice B1 n1 d1, .slice B2 n2 d2, .slice B3 n3 d3]
    simpa using this))
  obtain ⟨⟨b1, b2, b3⟩, b4, b5, b6⟩ := hs
  have XS := Lib.hid ((((bx_new w 23 [.int .i64 si, .int .i64 sq, .int .i64 s3, .int .i64 se]).nx (Nx.one _ (.cells #[.slice A1 m1 c1, .slice A2 m2 c2, .slice A3 m3 c3] 26))).nx (Nx.one _ (.cells #[.slice B1 n1 d1, .slice B2 n2 d2, .slice B3 n3 d3] 26))).nx (Nx.one _ (.cells #[.slice A1 m1 c1, .slice A2 m2 c2, .slice A3 m3 c3, .slice B1 n1 d1, .slice B2 n2 d2, .slice B3 n3 d3] 26)))
  have XA := Lib.hid (((bx_new (w.alloc (.cells #[.int .i64 si, .int .i64 sq, .int .i64 s3, .int .i64 se] 23)) 26 [.slice A1 m1 c1, .slice A2 m2 c2, .slice A3 m3 c3]).nx (Nx.one _ (.cells #[.slice B1 n1 d1, .slice B2 n2 d2, .slice B3 n3 d3] 26))).nx (Nx.one _ (.cells #[.slice A1 m1 c1, .slice A2 m2 c2, .slice A3 m3 c3, .slice B1 n1 d1, .slice B2 n2 d2, .slice B3 n3 d3] 26)))
  have XB := Lib.hid ((bx_new ((w.alloc (.cells #[.int .i64 si, .int .i64 sq, .int .i64 s3, .int .i64 se] 23)).alloc (.cells #[.slice A1 m1 c1, .slice A2 m2 c2, .slice A3 m3 c3] 26)) 26 [.slice B1 n1 d1, .slice B2 n2 d2, .slice B3 n3 d3]).nx (Nx.one _ (.cells #[.slice A1 m1 c1, .slice A2 m2 c2, .slice A3 m3 c3, .slice B1 n1 d1, .slice B2 n2 d2, .slice B3 n3 d3] 26)))
  rw [show (w.alloc (.cells #[.int .i64 si, .int .i64 sq, .int .i64 s3, .int .i64 se] 23)).heap.size = w.heap.size + 1 by simp] at XA
  rw [show ((w.alloc (.cells #[.int .i64 si, .int .i64 sq, .int .i64 s3, .int .i64 se] 23)).alloc (.cells #[.slice A1 m1 c1, .slice A2 m2 c2, .slice A3 m3 c3] 26)).heap.size = w.heap.size + 1 + 1 by simp] at XB
  have NE := Lib.hid (new_ims si sq s3 se)
  have RN := Lib.hid (refNew_ims si sq s3 se)
  have lz1 := zr_len (si := si) (sq := sq) (sm := s3) (se := se) (x := sq) (fun h => by unfold sizeOK at h; omega)
  have lz2 := zr_len (si := si) (sq := sq) (sm := s3) (se := se) (x := s3) (fun h => by unfold sizeOK at h; omega)
  have lz3 := zr_len (si := si) (sq := sq) (sm := s3) (se := se) (x := se) (fun h => by unfold sizeOK at h; omega)
  generalize zr si sq s3 se sq = z1 at *
  generalize zr si sq s3 se s3 = z2 at *
  generalize zr si sq s3 se se = z3 at *
  generalize csz si sq s3 se = er at *
  have I1 := Lib.hid hx1
  have I2 := Lib.hid hx2
  have I3 := Lib.hid hx3
  have J1 := Lib.hid hy1
  have J2 := Lib.hid hy2
  have J3 := Lib.hid hy3
  clear hx1 hx2 hx3 hy1 hy2 hy3
  go_enter Try.func3, Try.ntmps3
  go_wp2_with fail
  generalize hh1 : w.heap.size + 1 = h1 at *
  generalize hh2 : h1 + 1 = h2 at *
  generalize hh0 : w.heap.size = h0 at *
  generalize ((((w.alloc (.cells #[.int .i64 si, .int .i64 sq, .int .i64 s3, .int .i64 se] 23)).alloc (.cells #[.slice A1 m1 c1, .slice A2 m2 c2, .slice A3 m3 c3] 26)).alloc (.cells #[.slice B1 n1 d1, .slice B2 n2 d2, .slice B3 n3 d3] 26)).alloc (.cells #[.slice A1 m1 c1, .slice A2 m2 c2, .slice A3 m3 c3, .slice B1 n1 d1, .slice B2 n2 d2, .slice B3 n3 d3] 26)) = W at *
  refine LG.out.mono ?_
  rintro e w1 ⟨rfl, k1⟩
  have s0 := (XS.out.nx k1).cell 0 rfl
  have s1 := (XS.out.nx k1).cell 1 rfl
  have s2 := (XS.out.nx k1).cell 2 rfl
  have s3' := (XS.out.nx k1).cell 3 rfl
  have H1 := Lib.hid k1
  clear k1
  go_wp2_with fail
  clear s0 s1 s2 s3'
  refine (NE.out _).mono ?_
  rintro e w2 ⟨v, rfl, ⟨P1, P2, P3, e1, e2, e3, rfl, i1, i2, i3⟩, k2⟩
  have H2 := Lib.hid (H1.out.trans k2)
  have K1 := Lib.hid i1
  have K2 := Lib.hid i2
  have K3 := Lib.hid i3
  clear k2 i1 i2 i3
  have XP := Lib.hid (bx_new w2 26 [.slice P1 z1.length e1, .slice P2 z2.length e2, .slice P3 z3.length e3])
  have s0 := (XS.out.nx (H2.out.alloc (.cells #[.slice P1 z1.length e1, .slice P2 z2.length e2, .slice P3 z3.length e3] 26))).cell 0 rfl
  have s1 := (XS.out.nx (H2.out.alloc (.cells #[.slice P1 z1.length e1, .slice P2 z2.length e2, .slice P3 z3.length e3] 26))).cell 1 rfl
  have s2 := (XS.out.nx (H2.out.alloc (.cells #[.slice P1 z1.length e1, .slice P2 z2.length e2, .slice P3 z3.length e3] 26))).cell 2 rfl
  have s3' := (XS.out.nx (H2.out.alloc (.cells #[.slice P1 z1.length e1, .slice P2 z2.length e2, .slice P3 z3.length e3] 26))).cell 3 rfl
  go_wp2_with fail
  clear s0 s1 s2 s3'
  refine (RN.out _).mono ?_
  rintro e w3 ⟨v, rfl, ⟨Q1, Q2, Q3, f1, f2, f3, rfl, i1, i2, i3⟩, k3⟩
  have H23 := Lib.hid ((Nx.one w2 (.cells #[.slice P1 z1.length e1, .slice P2 z2.length e2, .slice P3 z3.length e3] 26)).trans k3)
  have XP3 := Lib.hid (XP.out.nx k3)
  have H3 := Lib.hid (H2.out.trans H23.out)
  have M1 := Lib.hid i1
  have M2 := Lib.hid i2
  have M3 := Lib.hid i3
  clear k3 i1 i2 i3
  have XQ := Lib.hid (bx_new w3 26 [.slice Q1 z1.length f1, .slice Q2 z2.length f2, .slice Q3 z3.length f3])
  have s0 := (XA.out.nx (H3.out.alloc (.cells #[.slice Q1 z1.length f1, .slice Q2 z2.length f2, .slice Q3 z3.length f3] 26))).cell 0 rfl
  have s1 := (XA.out.nx (H3.out.alloc (.cells #[.slice Q1 z1.length f1, .slice Q2 z2.length f2, .slice Q3 z3.length f3] 26))).cell 1 rfl
  have s2 := (XA.out.nx (H3.out.alloc (.cells #[.slice Q1 z1.length f1, .slice Q2 z2.length f2, .slice Q3 z3.length f3] 26))).cell 2 rfl
  go_wp2_with fail
  clear s0 s1 s2
  have NW := N0.out.trans (H3.out.alloc (.cells #[.slice Q1 z1.length f1, .slice Q2 z2.length f2, .slice Q3 z3.length f3] 26))
  refine (clone_ok A1 A2 A3 m1 m2 m3 c1 c2 c3 x1 x2 x3 (by omega) (by omega) (by omega) _ (I1.out.nx NW) (I2.out.nx NW) (I3.out.nx NW)).mono ?_
  clear NW
  rintro e w4 ⟨v, rfl, ⟨a1, a2, a3, k1, k2, k3, rfl, _, ⟨o1, l1⟩, ⟨o2, l2⟩, ⟨o3, l3⟩⟩, k4⟩
  have C1 := Lib.hid (o1.im l1)
  have C2 := Lib.hid (o2.im l2)
  have C3 := Lib.hid (o3.im l3)
  have H34 := Lib.hid ((Nx.one w3 (.cells #[.slice Q1 z1.length f1, .slice Q2 z2.length f2, .slice Q3 z3.length f3] 26)).trans k4)
  have XQ4 := Lib.hid (XQ.out.nx k4)
  have H4 := Lib.hid (H3.out.trans H34.out)
  clear k4 o1 o2 o3 l1 l2 l3
  have XC := Lib.hid (bx_new w4 26 [.slice (some ⟨a1, 0, none⟩) m1 k1, .slice (some ⟨a2, 0, none⟩) m2 k2, .slice (some ⟨a3, 0, none⟩) m3 k3])
  have NC := Lib.hid (Nx.one w4 (.cells #[.slice (some ⟨a1, 0, none⟩) m1 k1, .slice (some ⟨a2, 0, none⟩) m2 k2, .slice (some ⟨a3, 0, none⟩) m3 k3] 26))
  generalize hl1 : z1.length = p1 at *
  generalize hl2 : z2.length = p2 at *
  generalize hl3 : z3.length = p3 at *
  go_wp2_with fail
  generalize hC1 : (some (⟨a1, 0, none⟩ : Addr)) = G1 at *
  generalize hC2 : (some (⟨a2, 0, none⟩ : Addr)) = G2 at *
  generalize hC3 : (some (⟨a3, 0, none⟩ : Addr)) = G3 at *
  generalize hh3 : w2.heap.size = h3 at *
  generalize hh4 : w3.heap.size = h4 at *
  generalize hh5 : w4.heap.size = h5 at *
  generalize w4.alloc (.cells #[.slice G1 m1 k1, .slice G2 m2 k2, .slice G3 m3 k3] 26) = V at *
  have XC' : Bx V h5 26 [.slice G1 m1 k1, .slice G2 m2 k2, .slice G3 m3 k3] := XC.out
  have NV := Lib.hid (H4.out.trans NC.out)
  have N3 := Lib.hid (H34.out.trans NC.out)
  have N2 := Lib.hid (H23.out.trans N3.out)
  have NWV := Lib.hid (N0.out.trans NV.out)
  have HS := Lib.hid (show ∀ w', Nx V w' → w'.cell? ⟨h0, 0, none⟩ = some (.int .i64 si) ∧ w'.cell? ⟨h0, 1, none⟩ = some (.int .i64 sq) ∧ w'.cell? ⟨h0, 2, none⟩ = some (.int .i64 s3) ∧ w'.cell? ⟨h0, 3, none⟩ = some (.int .i64 se) ∧ w'.cell? ⟨h1, 0, none⟩ = some (.slice A1 m1 c1) ∧ w'.cell? ⟨h1, 1, none⟩ = some (.slice A2 m2 c2) ∧ w'.cell? ⟨h1, 2, none⟩ = some (.slice A3 m3 c3) ∧ w'.cell? ⟨h2, 0, none⟩ = some (.slice B1 n1 d1) ∧ w'.cell? ⟨h2, 1, none⟩ = some (.slice B2 n2 d2) ∧ w'.cell? ⟨h2, 2, none⟩ = some (.slice B3 n3 d3) ∧ w'.cell? ⟨h3, 0, none⟩ = some (.slice P1 p1 e1) ∧ w'.cell? ⟨h3, 1, none⟩ = some (.slice P2 p2 e2) ∧ w'.cell? ⟨h3, 2, none⟩ = some (.slice P3 p3 e3) ∧ w'.cell? ⟨h4, 0, none⟩ = some (.slice Q1 p1 f1) ∧ w'.cell? ⟨h4, 1, none⟩ = some (.slice Q2 p2 f2) ∧ w'.cell? ⟨h4, 2, none⟩ = some (.slice Q3 p3 f3) ∧ w'.cell? ⟨h5, 0, none⟩ = some (.slice G1 m1 k1) ∧ w'.cell? ⟨h5, 1, none⟩ = some (.slice G2 m2 k2) ∧ w'.cell? ⟨h5, 2, none⟩ = some (.slice G3 m3 k3) from fun w' h => ⟨(XS.out.nx (NV.out.trans h)).cell 0 rfl, (XS.out.nx (NV.out.trans h)).cell 1 rfl, (XS.out.nx (NV.out.trans h)).cell 2 rfl, (XS.out.nx (NV.out.trans h)).cell 3 rfl, (XA.out.nx (NV.out.trans h)).cell 0 rfl, (XA.out.nx (NV.out.trans h)).cell 1 rfl, (XA.out.nx (NV.out.trans h)).cell 2 rfl, (XB.out.nx (NV.out.trans h)).cell 0 rfl, (XB.out.nx (NV.out.trans h)).cell 1 rfl, (XB.out.nx (NV.out.trans h)).cell 2 rfl, (XP3.out.nx (N3.out.trans h)).cell 0 rfl, (XP3.out.nx (N3.out.trans h)).cell 1 rfl, (XP3.out.nx (N3.out.trans h)).cell 2 rfl, (XQ4.out.nx (NC.out.trans h)).cell 0 rfl, (XQ4.out.nx (NC.out.trans h)).cell 1 rfl, (XQ4.out.nx (NC.out.trans h)).cell 2 rfl, (XC.out.nx h).cell 0 rfl, (XC.out.nx h).cell 1 rfl, (XC.out.nx h).cell 2 rfl⟩)
  have RNM := Lib.hid (fun w' (k : Nx V w') => stRefEqual_any P1 P2 P3 p1 p2 p3 e1 e2 e3 Q1 Q2 Q3 p1 p2 p3 f1 f2 f3 z1 z2 z3 z1 z2 z3 (by omega) (by omega) (by omega) w' (K1.out.nx (N2.out.trans k)) (K2.out.nx (N2.out.trans k)) (K3.out.nx (N2.out.trans k)) (M1.out.nx (N3.out.trans k)) (M2.out.nx (N3.out.trans k)) (M3.out.nx (N3.out.trans k)))
  have FT := Lib.hid (fun w' => stFits_any si sq s3 se A1 A2 A3 m1 m2 m3 c1 c2 c3 w')
  have RF := Lib.hid (fun w' => refFits_any si sq s3 se A1 A2 A3 m1 m2 m3 c1 c2 c3 w')
  have EAB := Lib.hid (fun w' (k : Nx V w') => stEqual_any A1 A2 A3 m1 m2 m3 c1 c2 c3 B1 B2 B3 n1 n2 n3 d1 d2 d3 x1 x2 x3 y1 y2 y3 (by omega) (by omega) (by omega) w' (I1.out.nx (NWV.out.trans k)) (I2.out.nx (NWV.out.trans k)) (I3.out.nx (NWV.out.trans k)) (J1.out.nx (NWV.out.trans k)) (J2.out.nx (NWV.out.trans k)) (J3.out.nx (NWV.out.trans k)))
  have RAB := Lib.hid (fun w' (k : Nx V w') => stRefEqual_any A1 A2 A3 m1 m2 m3 c1 c2 c3 B1 B2 B3 n1 n2 n3 d1 d2 d3 x1 x2 x3 y1 y2 y3 (by omega) (by omega) (by omega) w' (I1.out.nx (NWV.out.trans k)) (I2.out.nx (NWV.out.trans k)) (I3.out.nx (NWV.out.trans k)) (J1.out.nx (NWV.out.trans k)) (J2.out.nx (NWV.out.trans k)) (J3.out.nx (NWV.out.trans k)))
  have FM := Lib.hid (fun w' (k : Nx V w') => stFormat_any A1 A2 A3 m1 m2 m3 c1 c2 c3 x1 x2 x3 (by omega) (by omega) (by omega) w' (I1.out.nx (NWV.out.trans k)) (I2.out.nx (NWV.out.trans k)) (I3.out.nx (NWV.out.trans k)))
  have RM := Lib.hid (fun w' (k : Nx V w') => stRefFormat_any A1 A2 A3 m1 m2 m3 c1 c2 c3 x1 x2 x3 (by omega) (by omega) (by omega) w' (I1.out.nx (NWV.out.trans k)) (I2.out.nx (NWV.out.trans k)) (I3.out.nx (NWV.out.trans k)))
  have RCA := Lib.hid (fun w' (k : Nx V w') => stRefEqual_any G1 G2 G3 m1 m2 m3 k1 k2 k3 A1 A2 A3 m1 m2 m3 c1 c2 c3 x1 x2 x3 x1 x2 x3 (by omega) (by omega) (by omega) w' (C1.out.nx (NC.out.trans k)) (C2.out.nx (NC.out.trans k)) (C3.out.nx (NC.out.trans k)) (I1.out.nx (NWV.out.trans k)) (I2.out.nx (NWV.out.trans k)) (I3.out.nx (NWV.out.trans k)))
  have EAA := Lib.hid (fun w' (k : Nx V w') => stEqual_any A1 A2 A3 m1 m2 m3 c1 c2 c3 A1 A2 A3 m1 m2 m3 c1 c2 c3 x1 x2 x3 x1 x2 x3 (by omega) (by omega) (by omega) w' (I1.out.nx (NWV.out.trans k)) (I2.out.nx (NWV.out.trans k)) (I3.out.nx (NWV.out.trans k)) (I1.out.nx (NWV.out.trans k)) (I2.out.nx (NWV.out.trans k)) (I3.out.nx (NWV.out.trans k)))
  simp only [eqB_self, Bool.and_self] at RNM RCA EAA
  generalize fitsB si sq s3 se m1 m2 m3 = fb at *
  generalize (eqB x1 y1 && eqB x2 y2 && eqB x3 y3) = eb at *
  generalize stxt x1 x2 x3 = tx at *
  obtain ⟨u0, u1, u2, u3, u4, u5, u6, u7, u8, u9, u10, u11, u12, u13, u14, u15, u16, u17, u18⟩ := HS.out V (Nx.refl _)
  clear XC' LG XS XA XB NE RN lz1 lz2 lz3 I1 I2 I3 J1 J2 J3 H1 H2 K1 K2 K3 XP H23 XP3 H3 M1 M2 M3 XQ C1 C2 C3 H34 XQ4 H4 XC NC hl1 hl2 hl3 hC1 hC2 hC3 hh0 hh1 hh2 hh3 hh4 hh5 N2 N3
  go_region_held3 (fun w' => w'.cell? ⟨h0, 0, none⟩ = some (.int .i64 si) ∧ w'.cell? ⟨h0, 1, none⟩ = some (.int .i64 sq) ∧ w'.cell? ⟨h0, 2, none⟩ = some (.int .i64 s3) ∧ w'.cell? ⟨h0, 3, none⟩ = some (.int .i64 se) ∧ w'.cell? ⟨h1, 0, none⟩ = some (.slice A1 m1 c1) ∧ w'.cell? ⟨h1, 1, none⟩ = some (.slice A2 m2 c2) ∧ w'.cell? ⟨h1, 2, none⟩ = some (.slice A3 m3 c3) ∧ w'.cell? ⟨h2, 0, none⟩ = some (.slice B1 n1 d1) ∧ w'.cell? ⟨h2, 1, none⟩ = some (.slice B2 n2 d2) ∧ w'.cell? ⟨h2, 2, none⟩ = some (.slice B3 n3 d3) ∧ w'.cell? ⟨h3, 0, none⟩ = some (.slice P1 p1 e1) ∧ w'.cell? ⟨h3, 1, none⟩ = some (.slice P2 p2 e2) ∧ w'.cell? ⟨h3, 2, none⟩ = some (.slice P3 p3 e3) ∧ w'.cell? ⟨h4, 0, none⟩ = some (.slice Q1 p1 f1) ∧ w'.cell? ⟨h4, 1, none⟩ = some (.slice Q2 p2 f2) ∧ w'.cell? ⟨h4, 2, none⟩ = some (.slice Q3 p3 f3) ∧ w'.cell? ⟨h5, 0, none⟩ = some (.slice G1 m1 k1) ∧ w'.cell? ⟨h5, 1, none⟩ = some (.slice G2 m2 k2) ∧ w'.cell? ⟨h5, 2, none⟩ = some (.slice G3 m3 k3)) (first | exact HS.out _ (by repeat (first | exact Nx.refl _ | assumption | refine Nx.drew ?_ | refine Nx.drewN ?_ _ | refine Nx.alloc ?_ _ | refine Nx.trans ?_ (by assumption))) | go_keep)
    (first
      | (go_at_call 9; refine (alive_any _).mono ?_; rintro e w5 ⟨rfl, h5⟩)
      | (go_at_call 13; (with_reducible refine (RNM.out _ ?_).mono ?_); (focus exact (by repeat (first | exact Nx.refl _ | assumption | refine Nx.drew ?_ | refine Nx.drewN ?_ _ | refine Nx.alloc ?_ _ | refine Nx.trans ?_ (by assumption)))); rintro e w5 ⟨rfl, h5⟩)
      | (go_at_call 13; (with_reducible refine (RAB.out _ ?_).mono ?_); (focus exact (by repeat (first | exact Nx.refl _ | assumption | refine Nx.drew ?_ | refine Nx.drewN ?_ _ | refine Nx.alloc ?_ _ | refine Nx.trans ?_ (by assumption)))); rintro e w5 ⟨rfl, h5⟩)
      | (go_at_call 13; (with_reducible refine (RCA.out _ ?_).mono ?_); (focus exact (by repeat (first | exact Nx.refl _ | assumption | refine Nx.drew ?_ | refine Nx.drewN ?_ _ | refine Nx.alloc ?_ _ | refine Nx.trans ?_ (by assumption)))); rintro e w5 ⟨rfl, h5⟩)
      | (go_at_call 14; (with_reducible refine (FT.out _).mono ?_); rintro e w5 ⟨rfl, h5⟩)
      | (go_at_call 15; (with_reducible refine (RF.out _).mono ?_); rintro e w5 ⟨rfl, h5⟩)
      | (go_at_call 16; (with_reducible refine (EAB.out _ ?_).mono ?_); (focus exact (by repeat (first | exact Nx.refl _ | assumption | refine Nx.drew ?_ | refine Nx.drewN ?_ _ | refine Nx.alloc ?_ _ | refine Nx.trans ?_ (by assumption)))); rintro e w5 ⟨rfl, h5⟩)
      | (go_at_call 16; (with_reducible refine (EAA.out _ ?_).mono ?_); (focus exact (by repeat (first | exact Nx.refl _ | assumption | refine Nx.drew ?_ | refine Nx.drewN ?_ _ | refine Nx.alloc ?_ _ | refine Nx.trans ?_ (by assumption)))); rintro e w5 ⟨rfl, h5⟩)
      | (go_at_call 17; (with_reducible refine (FM.out _ ?_).mono ?_); (focus exact (by repeat (first | exact Nx.refl _ | assumption | refine Nx.drew ?_ | refine Nx.drewN ?_ _ | refine Nx.alloc ?_ _ | refine Nx.trans ?_ (by assumption)))); rintro e w5 ⟨rfl, h5⟩)
      | (go_at_call 18; (with_reducible refine (RM.out _ ?_).mono ?_); (focus exact (by repeat (first | exact Nx.refl _ | assumption | refine Nx.drew ?_ | refine Nx.drewN ?_ _ | refine Nx.alloc ?_ _ | refine Nx.trans ?_ (by assumption)))); rintro e w5 ⟨rfl, h5⟩))
  all_goals go_wp2
  all_goals go_ret
  all_goals exact ⟨rfl, NWV.out.trans (by repeat (first | exact Nx.refl _ | assumption | refine Nx.drew ?_ | refine Nx.drewN ?_ _ | refine Nx.alloc ?_ _ | refine Nx.trans ?_ (by assumption)))⟩
end Go.Proofs.Ytndapcbjcannhaa
