/- What readNumbers of the decoder returns. Condition: a reader over bytes that read as a list. -/
import Derived.Test.YtdiamajkfbejhaaDoorITB
import Derived.Test.YtdiamajkfbejhaaDoorIT9
import Derived.Deep.RegionHeld3
namespace Go.Proofs.YtdiamajkfbejhaaDoor
open Go.RowKit

theorem RdY.mb {w w' : World} {b : Nat} {A : Option Addr} {bs : List UInt8} (h : RdY w A bs) (k : Mb b w w') (hne : ∀ ad, A = some ad → ad.block ≠ b) : RdY w' A bs := fun i x hi => by
  obtain ⟨ad, e, hc⟩ := h i x hi
  refine ⟨ad, e, k.cell hc ?_⟩
  rw [show (ad.add i).block = ad.block by unfold Addr.add; split <;> rfl]
  intro e2; exact hne ad e (Option.some.inj e2)
theorem Mb.setNew {b g i : Nat} {o : Option Nat} {x y : World} (h : Mb b x y) (hg : x.heap.size ≤ g) (v : Value) : Mb b x (y.setCell ⟨g, i, o⟩ v) :=
  ⟨h.os, h.tape, h.output, by simpa [World.setCell] using h.size, fun k hk hne => (Below.heap_setCell _ _ _ _ (by simp only; omega)).trans (h.block k hk hne)⟩
theorem gn_cut {bs : List UInt8} {a k : Nat} (h : 2 ≤ k) : gn ((bs.drop a).take k) 0 = gn bs a := by
  unfold gn
  rw [List.getD_eq_getElem?_getD, List.getD_eq_getElem?_getD, List.getElem?_take, List.getElem?_take, if_pos (by omega), if_pos (by omega), List.getElem?_drop, List.getElem?_drop, List.getD_eq_getElem?_getD, List.getD_eq_getElem?_getD]
  rfl
theorem cut_len {bs : List UInt8} {a k : Nat} (h : a + k ≤ bs.length) : ((bs.drop a).take k).length = k := by rw [List.length_take, List.length_drop]; omega
/-- What readNumbers leaves. -/
def RnP (b : Nat) (A : Option Addr) (bs : List UInt8) (n c : Nat) (w : World) (r : Ending) (w' : World) : Prop :=
  Mb b w w' ∧ ((13 ≤ n ∧ r = .returned (.tuple #[.agg #[.int .i64 (gn bs 3), .int .i64 (gn bs 5), .int .i64 (gn bs 7), .int .i64 (gn bs 9)], .int .i64 (gn bs 11), .bool true]) ∧ Rdr w' b A n c 13) ∨
    (n < 13 ∧ r = .returned (.tuple #[.agg #[.int .i64 0, .int .i64 0, .int .i64 0, .int .i64 0], .int .i64 0, .bool false])))
set_option maxHeartbeats 6400000 in
set_option maxRecDepth 100000 in
theorem readNumbers_any (b : Nat) (A : Option Addr) (bs : List UInt8) (n c : Nat) (hn : bs.length = n) (h3 : 3 ≤ n) (hl : n ≤ c) (hc : c ≤ maxLen) (hA : A = none → c = 0) (w : World) (hr : RdY w A bs) (hx : Rdr w b A n c 3) (hne : ∀ ad, A = some ad → ad.block ≠ b) :
    Calls Tryd.prog 42 #[.func (.func 43) #[.pointer (some ⟨b, 0, none⟩)] #[]] w (RnP b A bs n c w) := by
  have HR := Lib.hid hr
  have HNE := Lib.hid hne
  have HL := Lib.hid hn
  have HAN := Lib.hid hA
  have HBL := Lib.hid hx.lt
  have NX := Lib.hid (fun (a : Nat) (ha : a ≤ n) (w : World) (h : Rdr w b A n c a) => next_any b A n c a 2 ha (by decide) hl hc hA w h)
  have NU := Lib.hid (fun (A' : Option Addr) (c' a : Nat) (h : a + 2 ≤ n) (w : World) (h : RdY w A' ((bs.drop a).take 2)) => number_any A' _ 2 c' (cut_len (by omega)) (Nat.le_refl _) (by decide) w h)
  have K0 := Lib.hid (show Mb b w ((w.alloc (.cells #[.int .i64 0, .int .i64 0, .int .i64 0, .int .i64 0] 23)).alloc (.cells #[.int .i64 0, .int .i64 0, .int .i64 0, .int .i64 0, .int .i64 0] 63)) from Mb.nx ((Nx.one _ _).alloc _))
  have HX0 := Lib.hid (show Rdr ((w.alloc (.cells #[.int .i64 0, .int .i64 0, .int .i64 0, .int .i64 0] 23)).alloc (.cells #[.int .i64 0, .int .i64 0, .int .i64 0, .int .i64 0, .int .i64 0] 63)) b A n c 3 from hx.nx ((Nx.one _ _).alloc _))
  have XS0 := Lib.hid (show Bx ((w.alloc (.cells #[.int .i64 0, .int .i64 0, .int .i64 0, .int .i64 0] 23)).alloc (.cells #[.int .i64 0, .int .i64 0, .int .i64 0, .int .i64 0, .int .i64 0] 63)) w.heap.size 23 [.int .i64 0, .int .i64 0, .int .i64 0, .int .i64 0] from (bx_new w 23 [.int .i64 0, .int .i64 0, .int .i64 0, .int .i64 0]).nx (Nx.one _ _))
  have XA0 := Lib.hid (show Bx ((w.alloc (.cells #[.int .i64 0, .int .i64 0, .int .i64 0, .int .i64 0] 23)).alloc (.cells #[.int .i64 0, .int .i64 0, .int .i64 0, .int .i64 0, .int .i64 0] 63)) (w.heap.size + 1) 63 [.int .i64 0, .int .i64 0, .int .i64 0, .int .i64 0, .int .i64 0] from bx_newB _ _ (by simp) 63 _)
  have hb1 : w.heap.size ≠ b := by have := HBL.out; omega
  have hb2 : w.heap.size + 1 ≠ b := by have := HBL.out; omega
  have HB1 := Lib.hid hb1
  have HB2 := Lib.hid hb2
  clear hr hne hn hA hx hb1 hb2 hl hc
  go_enter Tryd.func42, Tryd.ntmps42
  go_wp2_with fail
  generalize hW0 : (w.alloc (.cells #[.int .i64 0, .int .i64 0, .int .i64 0, .int .i64 0] 23)).alloc (.cells #[.int .i64 0, .int .i64 0, .int .i64 0, .int .i64 0, .int .i64 0] 63) = W0 at *
  clear hW0
  refine wp_loop_rounds 6 ?_
  rw [rounds_succ]
  go_wp2_with fail
  refine (NX.out 3 (by omega) W0 HX0.out).mono ?_
  rintro r u0 ⟨m0, hd⟩
  have KU0 := Lib.hid (K0.out.trans m0)
  have XSU := Lib.hid (XS0.out.mb m0 HB1.out)
  have XAU := Lib.hid (XA0.out.mb m0 HB2.out)
  clear m0
  rcases hd with ⟨hle, v, rfl, ⟨A', c', rfl, _, hcut⟩, hx'⟩ | ⟨hle, rfl, _⟩
  rotate_left
  · have s0 := XSU.out.frozen 0
    have s1 := XSU.out.frozen 1
    have s2 := XSU.out.frozen 2
    have s3 := XSU.out.frozen 3
    have s4 := XSU.out.cell 0 rfl
    have s5 := XSU.out.cell 1 rfl
    have s6 := XSU.out.cell 2 rfl
    have s7 := XSU.out.cell 3 rfl
    have z0 := (XSU.out.put 0 (.int .i64 0)).cell 0 rfl
    have z1 := ((XSU.out.put 0 (.int .i64 0)).put 1 (.int .i64 0)).cell 1 rfl
    have z2 := (((XSU.out.put 0 (.int .i64 0)).put 1 (.int .i64 0)).put 2 (.int .i64 0)).cell 2 rfl
    have z3 := ((((XSU.out.put 0 (.int .i64 0)).put 1 (.int .i64 0)).put 2 (.int .i64 0)).put 3 (.int .i64 0)).cell 3 rfl
    go_wp2_with fail
    try simp only [Exit.inBlock, Exit.then]
    refine bodyPost_ret (by simp [results, Tryd.results42, go_sem, z0, z1, z2, z3]; try rfl) rfl ?_
    exact ⟨(((KU0.out.setNew (Nat.le_refl _) _).setNew (Nat.le_refl _) _).setNew (Nat.le_refl _) _).setNew (Nat.le_refl _) _, .inr ⟨by omega, rfl⟩⟩
  have HXU := Lib.hid hx'
  have HRU := Lib.hid (HR.out.mb KU0.out HNE.out)
  have HCU := Lib.hid (hcut _ _ HRU.out HL.out)
  clear hx' hcut
  go_wp2_with fail
  refine (NU.out A' c' 3 hle u0 HCU.out).mono ?_
  rintro r y0 ⟨rfl, q⟩
  rw [gn_cut (by decide)]
  have KY0 := Lib.hid (KU0.out.trans (Mb.nx q))
  have HXY := Lib.hid (HXU.out.nx q)
  have XSY := Lib.hid (XSU.out.nx q)
  have XAY := Lib.hid (XAU.out.nx q)
  clear q HRU HCU HXU XSU XAU
  have f1 := XAY.out.frozen 0
  have f2 := XAY.out.cell 0 rfl
  go_wp2_with fail
  have K1 := Lib.hid (show Mb b w (y0.setCell ⟨w.heap.size + 1, 0, none⟩ (.int .i64 (gn bs 3))) from KY0.out.setNew (by omega) _)
  have HX1 := Lib.hid (show Rdr (y0.setCell ⟨w.heap.size + 1, 0, none⟩ (.int .i64 (gn bs 3))) b A n c 5 from HXY.out.far (fun e => HB2.out e.symm) _)
  have XS1 := Lib.hid (show Bx (y0.setCell ⟨w.heap.size + 1, 0, none⟩ (.int .i64 (gn bs 3))) w.heap.size 23 [.int .i64 0, .int .i64 0, .int .i64 0, .int .i64 0] from XSY.out.far (by omega) _)
  have XA1 := Lib.hid (show Bx (y0.setCell ⟨w.heap.size + 1, 0, none⟩ (.int .i64 (gn bs 3))) (w.heap.size + 1) 63 [.int .i64 (gn bs 3), .int .i64 0, .int .i64 0, .int .i64 0, .int .i64 0] from XAY.out.put 0 _)
  clear f1 f2 HXY XSY XAY KY0 KU0
  generalize y0.setCell ⟨w.heap.size + 1, 0, none⟩ (.int .i64 (gn bs 3)) = W1 at *
  rw [rounds_succ]
  go_wp2_with fail
  refine (NX.out 5 (by omega) W1 HX1.out).mono ?_
  rintro r u1 ⟨m1, hd⟩
  have KU1 := Lib.hid (K1.out.trans m1)
  have XSU := Lib.hid (XS1.out.mb m1 HB1.out)
  have XAU := Lib.hid (XA1.out.mb m1 HB2.out)
  clear m1
  rcases hd with ⟨hle, v, rfl, ⟨A', c', rfl, _, hcut⟩, hx'⟩ | ⟨hle, rfl, _⟩
  rotate_left
  · have s0 := XSU.out.frozen 0
    have s1 := XSU.out.frozen 1
    have s2 := XSU.out.frozen 2
    have s3 := XSU.out.frozen 3
    have s4 := XSU.out.cell 0 rfl
    have s5 := XSU.out.cell 1 rfl
    have s6 := XSU.out.cell 2 rfl
    have s7 := XSU.out.cell 3 rfl
    have z0 := (XSU.out.put 0 (.int .i64 0)).cell 0 rfl
    have z1 := ((XSU.out.put 0 (.int .i64 0)).put 1 (.int .i64 0)).cell 1 rfl
    have z2 := (((XSU.out.put 0 (.int .i64 0)).put 1 (.int .i64 0)).put 2 (.int .i64 0)).cell 2 rfl
    have z3 := ((((XSU.out.put 0 (.int .i64 0)).put 1 (.int .i64 0)).put 2 (.int .i64 0)).put 3 (.int .i64 0)).cell 3 rfl
    go_wp2_with fail
    try simp only [Exit.inBlock, Exit.then]
    refine bodyPost_ret (by simp [results, Tryd.results42, go_sem, z0, z1, z2, z3]; try rfl) rfl ?_
    exact ⟨(((KU1.out.setNew (Nat.le_refl _) _).setNew (Nat.le_refl _) _).setNew (Nat.le_refl _) _).setNew (Nat.le_refl _) _, .inr ⟨by omega, rfl⟩⟩
  have HXU := Lib.hid hx'
  have HRU := Lib.hid (HR.out.mb KU1.out HNE.out)
  have HCU := Lib.hid (hcut _ _ HRU.out HL.out)
  clear hx' hcut
  go_wp2_with fail
  refine (NU.out A' c' 5 hle u1 HCU.out).mono ?_
  rintro r y1 ⟨rfl, q⟩
  rw [gn_cut (by decide)]
  have KY1 := Lib.hid (KU1.out.trans (Mb.nx q))
  have HXY := Lib.hid (HXU.out.nx q)
  have XSY := Lib.hid (XSU.out.nx q)
  have XAY := Lib.hid (XAU.out.nx q)
  clear q HRU HCU HXU XSU XAU
  have f1 := XAY.out.frozen 1
  have f2 := XAY.out.cell 1 rfl
  go_wp2_with fail
  have K2 := Lib.hid (show Mb b w (y1.setCell ⟨w.heap.size + 1, 1, none⟩ (.int .i64 (gn bs 5))) from KY1.out.setNew (by omega) _)
  have HX2 := Lib.hid (show Rdr (y1.setCell ⟨w.heap.size + 1, 1, none⟩ (.int .i64 (gn bs 5))) b A n c 7 from HXY.out.far (fun e => HB2.out e.symm) _)
  have XS2 := Lib.hid (show Bx (y1.setCell ⟨w.heap.size + 1, 1, none⟩ (.int .i64 (gn bs 5))) w.heap.size 23 [.int .i64 0, .int .i64 0, .int .i64 0, .int .i64 0] from XSY.out.far (by omega) _)
  have XA2 := Lib.hid (show Bx (y1.setCell ⟨w.heap.size + 1, 1, none⟩ (.int .i64 (gn bs 5))) (w.heap.size + 1) 63 [.int .i64 (gn bs 3), .int .i64 (gn bs 5), .int .i64 0, .int .i64 0, .int .i64 0] from XAY.out.put 1 _)
  clear f1 f2 HXY XSY XAY KY1 KU1
  generalize y1.setCell ⟨w.heap.size + 1, 1, none⟩ (.int .i64 (gn bs 5)) = W2 at *
  rw [rounds_succ]
  go_wp2_with fail
  refine (NX.out 7 (by omega) W2 HX2.out).mono ?_
  rintro r u2 ⟨m2, hd⟩
  have KU2 := Lib.hid (K2.out.trans m2)
  have XSU := Lib.hid (XS2.out.mb m2 HB1.out)
  have XAU := Lib.hid (XA2.out.mb m2 HB2.out)
  clear m2
  rcases hd with ⟨hle, v, rfl, ⟨A', c', rfl, _, hcut⟩, hx'⟩ | ⟨hle, rfl, _⟩
  rotate_left
  · have s0 := XSU.out.frozen 0
    have s1 := XSU.out.frozen 1
    have s2 := XSU.out.frozen 2
    have s3 := XSU.out.frozen 3
    have s4 := XSU.out.cell 0 rfl
    have s5 := XSU.out.cell 1 rfl
    have s6 := XSU.out.cell 2 rfl
    have s7 := XSU.out.cell 3 rfl
    have z0 := (XSU.out.put 0 (.int .i64 0)).cell 0 rfl
    have z1 := ((XSU.out.put 0 (.int .i64 0)).put 1 (.int .i64 0)).cell 1 rfl
    have z2 := (((XSU.out.put 0 (.int .i64 0)).put 1 (.int .i64 0)).put 2 (.int .i64 0)).cell 2 rfl
    have z3 := ((((XSU.out.put 0 (.int .i64 0)).put 1 (.int .i64 0)).put 2 (.int .i64 0)).put 3 (.int .i64 0)).cell 3 rfl
    go_wp2_with fail
    try simp only [Exit.inBlock, Exit.then]
    refine bodyPost_ret (by simp [results, Tryd.results42, go_sem, z0, z1, z2, z3]; try rfl) rfl ?_
    exact ⟨(((KU2.out.setNew (Nat.le_refl _) _).setNew (Nat.le_refl _) _).setNew (Nat.le_refl _) _).setNew (Nat.le_refl _) _, .inr ⟨by omega, rfl⟩⟩
  have HXU := Lib.hid hx'
  have HRU := Lib.hid (HR.out.mb KU2.out HNE.out)
  have HCU := Lib.hid (hcut _ _ HRU.out HL.out)
  clear hx' hcut
  go_wp2_with fail
  refine (NU.out A' c' 7 hle u2 HCU.out).mono ?_
  rintro r y2 ⟨rfl, q⟩
  rw [gn_cut (by decide)]
  have KY2 := Lib.hid (KU2.out.trans (Mb.nx q))
  have HXY := Lib.hid (HXU.out.nx q)
  have XSY := Lib.hid (XSU.out.nx q)
  have XAY := Lib.hid (XAU.out.nx q)
  clear q HRU HCU HXU XSU XAU
  have f1 := XAY.out.frozen 2
  have f2 := XAY.out.cell 2 rfl
  go_wp2_with fail
  have K3 := Lib.hid (show Mb b w (y2.setCell ⟨w.heap.size + 1, 2, none⟩ (.int .i64 (gn bs 7))) from KY2.out.setNew (by omega) _)
  have HX3 := Lib.hid (show Rdr (y2.setCell ⟨w.heap.size + 1, 2, none⟩ (.int .i64 (gn bs 7))) b A n c 9 from HXY.out.far (fun e => HB2.out e.symm) _)
  have XS3 := Lib.hid (show Bx (y2.setCell ⟨w.heap.size + 1, 2, none⟩ (.int .i64 (gn bs 7))) w.heap.size 23 [.int .i64 0, .int .i64 0, .int .i64 0, .int .i64 0] from XSY.out.far (by omega) _)
  have XA3 := Lib.hid (show Bx (y2.setCell ⟨w.heap.size + 1, 2, none⟩ (.int .i64 (gn bs 7))) (w.heap.size + 1) 63 [.int .i64 (gn bs 3), .int .i64 (gn bs 5), .int .i64 (gn bs 7), .int .i64 0, .int .i64 0] from XAY.out.put 2 _)
  clear f1 f2 HXY XSY XAY KY2 KU2
  generalize y2.setCell ⟨w.heap.size + 1, 2, none⟩ (.int .i64 (gn bs 7)) = W3 at *
  rw [rounds_succ]
  go_wp2_with fail
  refine (NX.out 9 (by omega) W3 HX3.out).mono ?_
  rintro r u3 ⟨m3, hd⟩
  have KU3 := Lib.hid (K3.out.trans m3)
  have XSU := Lib.hid (XS3.out.mb m3 HB1.out)
  have XAU := Lib.hid (XA3.out.mb m3 HB2.out)
  clear m3
  rcases hd with ⟨hle, v, rfl, ⟨A', c', rfl, _, hcut⟩, hx'⟩ | ⟨hle, rfl, _⟩
  rotate_left
  · have s0 := XSU.out.frozen 0
    have s1 := XSU.out.frozen 1
    have s2 := XSU.out.frozen 2
    have s3 := XSU.out.frozen 3
    have s4 := XSU.out.cell 0 rfl
    have s5 := XSU.out.cell 1 rfl
    have s6 := XSU.out.cell 2 rfl
    have s7 := XSU.out.cell 3 rfl
    have z0 := (XSU.out.put 0 (.int .i64 0)).cell 0 rfl
    have z1 := ((XSU.out.put 0 (.int .i64 0)).put 1 (.int .i64 0)).cell 1 rfl
    have z2 := (((XSU.out.put 0 (.int .i64 0)).put 1 (.int .i64 0)).put 2 (.int .i64 0)).cell 2 rfl
    have z3 := ((((XSU.out.put 0 (.int .i64 0)).put 1 (.int .i64 0)).put 2 (.int .i64 0)).put 3 (.int .i64 0)).cell 3 rfl
    go_wp2_with fail
    try simp only [Exit.inBlock, Exit.then]
    refine bodyPost_ret (by simp [results, Tryd.results42, go_sem, z0, z1, z2, z3]; try rfl) rfl ?_
    exact ⟨(((KU3.out.setNew (Nat.le_refl _) _).setNew (Nat.le_refl _) _).setNew (Nat.le_refl _) _).setNew (Nat.le_refl _) _, .inr ⟨by omega, rfl⟩⟩
  have HXU := Lib.hid hx'
  have HRU := Lib.hid (HR.out.mb KU3.out HNE.out)
  have HCU := Lib.hid (hcut _ _ HRU.out HL.out)
  clear hx' hcut
  go_wp2_with fail
  refine (NU.out A' c' 9 hle u3 HCU.out).mono ?_
  rintro r y3 ⟨rfl, q⟩
  rw [gn_cut (by decide)]
  have KY3 := Lib.hid (KU3.out.trans (Mb.nx q))
  have HXY := Lib.hid (HXU.out.nx q)
  have XSY := Lib.hid (XSU.out.nx q)
  have XAY := Lib.hid (XAU.out.nx q)
  clear q HRU HCU HXU XSU XAU
  have f1 := XAY.out.frozen 3
  have f2 := XAY.out.cell 3 rfl
  go_wp2_with fail
  have K4 := Lib.hid (show Mb b w (y3.setCell ⟨w.heap.size + 1, 3, none⟩ (.int .i64 (gn bs 9))) from KY3.out.setNew (by omega) _)
  have HX4 := Lib.hid (show Rdr (y3.setCell ⟨w.heap.size + 1, 3, none⟩ (.int .i64 (gn bs 9))) b A n c 11 from HXY.out.far (fun e => HB2.out e.symm) _)
  have XS4 := Lib.hid (show Bx (y3.setCell ⟨w.heap.size + 1, 3, none⟩ (.int .i64 (gn bs 9))) w.heap.size 23 [.int .i64 0, .int .i64 0, .int .i64 0, .int .i64 0] from XSY.out.far (by omega) _)
  have XA4 := Lib.hid (show Bx (y3.setCell ⟨w.heap.size + 1, 3, none⟩ (.int .i64 (gn bs 9))) (w.heap.size + 1) 63 [.int .i64 (gn bs 3), .int .i64 (gn bs 5), .int .i64 (gn bs 7), .int .i64 (gn bs 9), .int .i64 0] from XAY.out.put 3 _)
  clear f1 f2 HXY XSY XAY KY3 KU3
  generalize y3.setCell ⟨w.heap.size + 1, 3, none⟩ (.int .i64 (gn bs 9)) = W4 at *
  rw [rounds_succ]
  go_wp2_with fail
  refine (NX.out 11 (by omega) W4 HX4.out).mono ?_
  rintro r u4 ⟨m4, hd⟩
  have KU4 := Lib.hid (K4.out.trans m4)
  have XSU := Lib.hid (XS4.out.mb m4 HB1.out)
  have XAU := Lib.hid (XA4.out.mb m4 HB2.out)
  clear m4
  rcases hd with ⟨hle, v, rfl, ⟨A', c', rfl, _, hcut⟩, hx'⟩ | ⟨hle, rfl, _⟩
  rotate_left
  · have s0 := XSU.out.frozen 0
    have s1 := XSU.out.frozen 1
    have s2 := XSU.out.frozen 2
    have s3 := XSU.out.frozen 3
    have s4 := XSU.out.cell 0 rfl
    have s5 := XSU.out.cell 1 rfl
    have s6 := XSU.out.cell 2 rfl
    have s7 := XSU.out.cell 3 rfl
    have z0 := (XSU.out.put 0 (.int .i64 0)).cell 0 rfl
    have z1 := ((XSU.out.put 0 (.int .i64 0)).put 1 (.int .i64 0)).cell 1 rfl
    have z2 := (((XSU.out.put 0 (.int .i64 0)).put 1 (.int .i64 0)).put 2 (.int .i64 0)).cell 2 rfl
    have z3 := ((((XSU.out.put 0 (.int .i64 0)).put 1 (.int .i64 0)).put 2 (.int .i64 0)).put 3 (.int .i64 0)).cell 3 rfl
    go_wp2_with fail
    try simp only [Exit.inBlock, Exit.then]
    refine bodyPost_ret (by simp [results, Tryd.results42, go_sem, z0, z1, z2, z3]; try rfl) rfl ?_
    exact ⟨(((KU4.out.setNew (Nat.le_refl _) _).setNew (Nat.le_refl _) _).setNew (Nat.le_refl _) _).setNew (Nat.le_refl _) _, .inr ⟨by omega, rfl⟩⟩
  have HXU := Lib.hid hx'
  have HRU := Lib.hid (HR.out.mb KU4.out HNE.out)
  have HCU := Lib.hid (hcut _ _ HRU.out HL.out)
  clear hx' hcut
  go_wp2_with fail
  refine (NU.out A' c' 11 hle u4 HCU.out).mono ?_
  rintro r y4 ⟨rfl, q⟩
  rw [gn_cut (by decide)]
  have KY4 := Lib.hid (KU4.out.trans (Mb.nx q))
  have HXY := Lib.hid (HXU.out.nx q)
  have XSY := Lib.hid (XSU.out.nx q)
  have XAY := Lib.hid (XAU.out.nx q)
  clear q HRU HCU HXU XSU XAU
  have f1 := XAY.out.frozen 4
  have f2 := XAY.out.cell 4 rfl
  go_wp2_with fail
  have K5 := Lib.hid (show Mb b w (y4.setCell ⟨w.heap.size + 1, 4, none⟩ (.int .i64 (gn bs 11))) from KY4.out.setNew (by omega) _)
  have HX5 := Lib.hid (show Rdr (y4.setCell ⟨w.heap.size + 1, 4, none⟩ (.int .i64 (gn bs 11))) b A n c 13 from HXY.out.far (fun e => HB2.out e.symm) _)
  have XS5 := Lib.hid (show Bx (y4.setCell ⟨w.heap.size + 1, 4, none⟩ (.int .i64 (gn bs 11))) w.heap.size 23 [.int .i64 0, .int .i64 0, .int .i64 0, .int .i64 0] from XSY.out.far (by omega) _)
  have XA5 := Lib.hid (show Bx (y4.setCell ⟨w.heap.size + 1, 4, none⟩ (.int .i64 (gn bs 11))) (w.heap.size + 1) 63 [.int .i64 (gn bs 3), .int .i64 (gn bs 5), .int .i64 (gn bs 7), .int .i64 (gn bs 9), .int .i64 (gn bs 11)] from XAY.out.put 4 _)
  clear f1 f2 HXY XSY XAY KY4 KU4
  generalize y4.setCell ⟨w.heap.size + 1, 4, none⟩ (.int .i64 (gn bs 11)) = W5 at *
  rw [rounds_succ]
  go_wp2_with fail
  have s0 := XS5.out.frozen 0
  have s1 := XS5.out.frozen 1
  have s2 := XS5.out.frozen 2
  have s3 := XS5.out.frozen 3
  have s4 := XS5.out.cell 0 rfl
  have s5 := XS5.out.cell 1 rfl
  have s6 := XS5.out.cell 2 rfl
  have s7 := XS5.out.cell 3 rfl
  have l0 := XA5.out.cell 0 rfl
  have l1 := XA5.out.cell 1 rfl
  have l2 := XA5.out.cell 2 rfl
  have l3 := XA5.out.cell 3 rfl
  have l4 := XA5.out.cell 4 rfl
  have z0 := (XS5.out.put 0 (.int .i64 (gn bs 3))).cell 0 rfl
  have z1 := ((XS5.out.put 0 (.int .i64 (gn bs 3))).put 1 (.int .i64 (gn bs 5))).cell 1 rfl
  have z2 := (((XS5.out.put 0 (.int .i64 (gn bs 3))).put 1 (.int .i64 (gn bs 5))).put 2 (.int .i64 (gn bs 7))).cell 2 rfl
  have z3 := ((((XS5.out.put 0 (.int .i64 (gn bs 3))).put 1 (.int .i64 (gn bs 5))).put 2 (.int .i64 (gn bs 7))).put 3 (.int .i64 (gn bs 9))).cell 3 rfl
  go_region
  go_wp2
  try simp only [Exit.inBlock, Exit.then]
  refine bodyPost_ret (by simp [results, Tryd.results42, go_sem, z0, z1, z2, z3]; try rfl) rfl ?_
  have hb1 : b ≠ w.heap.size := fun e => HB1.out e.symm
  exact ⟨((((K5.out.setNew (Nat.le_refl _) _).setNew (Nat.le_refl _) _).setNew (Nat.le_refl _) _).setNew (Nat.le_refl _) _).trans (Mb.nx (Nx.refl _).drew), .inl ⟨by omega, rfl, Bx.nx ((((HX5.out.far hb1 _).far hb1 _).far hb1 _).far hb1 _) (Nx.refl _).drew⟩⟩
end Go.Proofs.YtdiamajkfbejhaaDoor
