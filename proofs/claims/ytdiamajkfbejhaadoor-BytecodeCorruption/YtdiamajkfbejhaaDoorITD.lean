/- What readIns of the decoder returns. Conditions: a reader over bytes that read as a list; the table of opcodes holds what the program's text lays. -/
import Derived.Test.YtdiamajkfbejhaaDoorITB
import Derived.Test.YtdiamajkfbejhaaDoorIT6
import Derived.Test.YtdiamajkfbejhaaDoorIT9
import Derived.Test.YtdiamajkfbejhaaDoorITC
namespace Go.Proofs.YtdiamajkfbejhaaDoor
open Go.RowKit

theorem Ev.mb {w w' : World} {b : Nat} (h : Ev w) (k : Mb b w w') (hb : 0 < b) : Ev w' where
  tb := fun i v hv => k.cell (h.tb i v hv) (by show some 0 ≠ some b; intro e; have := Option.some.inj e; omega)
theorem gb_cut {bs : List UInt8} {a k j : Nat} (h : j < k) : gb ((bs.drop a).take k) j = gb bs (a + j) := by
  unfold gb
  rw [List.getD_eq_getElem?_getD, List.getD_eq_getElem?_getD, List.getElem?_take, if_pos h, List.getElem?_drop]
theorem gn_cut' {bs : List UInt8} {a k j : Nat} (h : j + 1 < k) : gn ((bs.drop a).take k) j = gn bs (a + j) := by
  rw [gn_gb, gn_gb, gb_cut (by omega), gb_cut h, Nat.add_assoc]
theorem gn_drop (bs : List UInt8) (a : Nat) : gn (bs.drop a) 0 = gn bs a := by
  unfold gn
  rw [List.getD_eq_getElem?_getD, List.getD_eq_getElem?_getD, List.getElem?_drop, List.getElem?_drop, List.getD_eq_getElem?_getD, List.getD_eq_getElem?_getD]
  rfl
theorem RdY.drop {w : World} {ad : Addr} {bs : List UInt8} {a : Nat} (h : RdY w (some ad) bs) : RdY w (some (ad.add a)) (bs.drop a) := fun j b hj => by
  rw [List.getElem?_drop] at hj
  obtain ⟨ad', e, hc⟩ := h (a + j) b hj
  obtain rfl := Option.some.inj e
  exact ⟨_, rfl, by rw [Addr.add_add]; exact hc⟩
theorem RdY.at1B {w : World} {ad : Addr} {bs : List UInt8} (h : RdY w (some ad) bs) (h0 : 1 < bs.length) : w.cell? ⟨ad.block, ad.off + 1, none⟩ = some (.int .u8 (gb bs 1)) := h.at1 h0
theorem RdY.atA {w : World} {A : Option Addr} {bs : List UInt8} (h : RdY w A bs) (h0 : 0 < bs.length) : ∃ ad, A = some ad := by obtain ⟨ad, e, _⟩ := h.at0 h0; exact ⟨ad, e⟩
theorem RdY.atB {w : World} {ad : Addr} {bs : List UInt8} (h : RdY w (some ad) bs) (h0 : 0 < bs.length) : w.cell? ad = some (.int .u8 (gb bs 0)) := by
  obtain ⟨ad', e, hc⟩ := h.at0 h0
  obtain rfl := Option.some.inj e
  exact hc
/-- What readIns leaves. -/
def RiP (b : Nat) (A : Option Addr) (bs : List UInt8) (n c a : Nat) (w : World) (r : Ending) (w' : World) : Prop :=
  Mb b w w' ∧ ((wrg bs a = 0 ∧ r = .returned (.tuple #[.agg #[.int .i64 (insAt bs a).op, .int .i64 (insAt bs a).k, .int .i64 (insAt bs a).n, .int .i64 (insAt bs a).t], .int .i64 0]) ∧ Rdr w' b A n c (a + 1 + need (frm (gb bs a)))) ∨
    (wrg bs a ≠ 0 ∧ ∃ x, Rdr w' b A n c x ∧ r = .returned (.tuple #[.agg #[.int .i64 0, .int .i64 0, .int .i64 0, .int .i64 0], .int .i64 (wrg bs a)])))
set_option maxHeartbeats 6400000 in
set_option maxRecDepth 100000 in
theorem readIns_any (b : Nat) (A : Option Addr) (bs : List UInt8) (n c a : Nat) (hn : bs.length = n) (ha : a ≤ n) (hl : n ≤ c) (hc : c ≤ maxLen) (hA : A = none → c = 0) (w : World) (hr : RdY w A bs) (hx : Rdr w b A n c a) (hne : ∀ ad, A = some ad → ad.block ≠ b) (he : Ev w) (hb0 : 0 < b) :
    Calls Tryd.prog 44 #[.func (.func 43) #[.pointer (some ⟨b, 0, none⟩)] #[]] w (RiP b A bs n c a w) := by
  have HR := Lib.hid hr
  have HNE := Lib.hid hne
  have HL := Lib.hid hn
  have HBL := Lib.hid hx.lt
  have HE := Lib.hid he
  have NX := Lib.hid (fun (a k : Nat) (ha : a ≤ n) (hk : k ≤ 4) (w : World) (h : Rdr w b A n c a) => next_any b A n c a k ha (by omega) hl hc hA w h)
  have K0 := Lib.hid (show Mb b w (w.alloc (.cells #[.int .i64 0, .int .i64 0, .int .i64 0, .int .i64 0] 46)) from Mb.nx (Nx.one _ _))
  have HX0 := Lib.hid (show Rdr (w.alloc (.cells #[.int .i64 0, .int .i64 0, .int .i64 0, .int .i64 0] 46)) b A n c a from hx.nx (Nx.one _ _))
  have XS0 := Lib.hid (bx_new w 46 [.int .i64 0, .int .i64 0, .int .i64 0, .int .i64 0])
  have HB1 := Lib.hid (show w.heap.size ≠ b by have := HBL.out; omega)
  have HW := Lib.hid (show wrg bs a = if n ≤ a then 5 else if 16 < gb bs a then 8 else if n < a + 1 + need (frm (gb bs a)) then 5 else 0 by unfold wrg; rw [HL.out])
  clear hr hne hn hA hx hl hc he
  go_enter Tryd.func44, Tryd.ntmps44
  go_wp2_with fail
  refine (NX.out a 1 ha (by decide) _ HX0.out).mono ?_
  rintro r w1 ⟨m1, hd⟩
  have K1 := Lib.hid (K0.out.trans m1)
  have XS1 := Lib.hid (XS0.out.mb m1 HB1.out)
  clear m1 HX0 K0 XS0
  rcases hd with ⟨hle, v, rfl, ⟨A', c', rfl, _, hcut⟩, hx'⟩ | ⟨hle, rfl, hx'⟩
  rotate_left
  · have HQ := Lib.hid (show wrg bs a = 5 by rw [HW.out, if_pos (by omega)])
    have HX1 := Lib.hid hx'
    clear hx'
    have s0 := XS1.out.frozen 0
    have s1 := XS1.out.frozen 1
    have s2 := XS1.out.frozen 2
    have s3 := XS1.out.frozen 3
    have s4 := XS1.out.cell 0 rfl
    have s5 := XS1.out.cell 1 rfl
    have s6 := XS1.out.cell 2 rfl
    have s7 := XS1.out.cell 3 rfl
    have z0 := (XS1.out.put 0 (.int .i64 0)).cell 0 rfl
    have z1 := ((XS1.out.put 0 (.int .i64 0)).put 1 (.int .i64 0)).cell 1 rfl
    have z2 := (((XS1.out.put 0 (.int .i64 0)).put 1 (.int .i64 0)).put 2 (.int .i64 0)).cell 2 rfl
    have z3 := ((((XS1.out.put 0 (.int .i64 0)).put 1 (.int .i64 0)).put 2 (.int .i64 0)).put 3 (.int .i64 0)).cell 3 rfl
    go_wp2_with fail
    try simp only [Exit.inBlock, Exit.then]
    refine bodyPost_ret (by simp [results, Tryd.results44, go_sem, z0, z1, z2, z3]; try rfl) rfl ?_
    have hb1 : b ≠ w.heap.size := fun e => HB1.out e.symm
    try unfold RiP
    rw [HQ.out]
    exact ⟨((((K1.out.setNew (Nat.le_refl _) _).setNew (Nat.le_refl _) _).setNew (Nat.le_refl _) _).setNew (Nat.le_refl _) _), .inr ⟨by decide, a, ((((HX1.out.far hb1 _).far hb1 _).far hb1 _).far hb1 _), rfl⟩⟩
  have HX1 := Lib.hid hx'
  have HR1 := Lib.hid (HR.out.mb K1.out HNE.out)
  have HC1 := Lib.hid (hcut _ _ HR1.out HL.out)
  clear hx' hcut
  have hl1 : ((bs.drop a).take 1).length = 1 := cut_len (by rw [HL.out]; exact hle)
  obtain ⟨ad1, rfl⟩ := HC1.out.atA (by omega)
  have c0 := HC1.out.atB (by omega)
  rw [gb_cut (by decide), Nat.add_zero] at c0
  have hg := gb_in bs a
  have HINS := Lib.hid (show insAt bs a = ⟨gb bs a, if hA (frm (gb bs a)) then gb bs (a + 1) else 0, if hA (frm (gb bs a)) then gb bs (a + 2) else 0,
    if hN (frm (gb bs a)) then gn bs (a + 1 + (if hA (frm (gb bs a)) then 2 else 0)) else 0⟩ from rfl)
  obtain ⟨o, ho⟩ : ∃ o, gb bs a = o := ⟨_, rfl⟩
  unfold RiP
  rw [ho] at hg c0 HW HINS ⊢
  have HO := Lib.hid ho
  clear ho HC1 hl1
  have hna : ¬ n ≤ a := by omega
  rw [if_neg hna] at HW
  have c1 := XS1
  clear c1
  have XI := Lib.hid (bx_new w1 46 [.int .i64 o, .int .i64 0, .int .i64 0, .int .i64 0])
  have K2 := Lib.hid (show Mb b w (w1.alloc (.cells #[.int .i64 o, .int .i64 0, .int .i64 0, .int .i64 0] 46)) from K1.out.trans (Mb.nx (Nx.one _ _)))
  have HX2 := Lib.hid (show Rdr (w1.alloc (.cells #[.int .i64 o, .int .i64 0, .int .i64 0, .int .i64 0] 46)) b A n c (a + 1) from HX1.out.nx (Nx.one _ _))
  have XS2 := Lib.hid (show Bx (w1.alloc (.cells #[.int .i64 o, .int .i64 0, .int .i64 0, .int .i64 0] 46)) w.heap.size 46 [.int .i64 0, .int .i64 0, .int .i64 0, .int .i64 0] from XS1.out.nx (Nx.one _ _))
  have HE2 := Lib.hid (HE.out.mb K2.out hb0)
  have HIB := Lib.hid (show w.heap.size < w1.heap.size from XS1.out.lt)
  have HBB := Lib.hid (show b < w1.heap.size from HX1.out.lt)
  have x0 := XI.out.cell 0 rfl
  have FM := Lib.hid (fun w he => opForm_any o w he)
  go_wp2_with fail
  clear c0
  generalize hW2 : w1.alloc (.cells #[.int .i64 o, .int .i64 0, .int .i64 0, .int .i64 0] 46) = W2 at *
  clear hW2
  obtain ⟨ib, hib⟩ : ∃ ib, w1.heap.size = ib := ⟨_, rfl⟩
  rw [hib] at XI HIB HBB x0 ⊢
  clear hib K1 XS1 HX1 HR1
  refine (FM.out _ HE2.out).mono ?_
  rintro r w3 ⟨rfl, rfl⟩
  by_cases h16 : 16 < o
  · have hno : isOp o = false := decide_eq_false (by omega)
    rw [hno, if_neg (by decide)]
    have HQ := Lib.hid (show wrg bs a = 8 by rw [HW.out, if_pos h16])
    clear h16 hno
    have s0 := XS2.out.frozen 0
    have s1 := XS2.out.frozen 1
    have s2 := XS2.out.frozen 2
    have s3 := XS2.out.frozen 3
    have s4 := XS2.out.cell 0 rfl
    have s5 := XS2.out.cell 1 rfl
    have s6 := XS2.out.cell 2 rfl
    have s7 := XS2.out.cell 3 rfl
    have z0 := (XS2.out.put 0 (.int .i64 0)).cell 0 rfl
    have z1 := ((XS2.out.put 0 (.int .i64 0)).put 1 (.int .i64 0)).cell 1 rfl
    have z2 := (((XS2.out.put 0 (.int .i64 0)).put 1 (.int .i64 0)).put 2 (.int .i64 0)).cell 2 rfl
    have z3 := ((((XS2.out.put 0 (.int .i64 0)).put 1 (.int .i64 0)).put 2 (.int .i64 0)).put 3 (.int .i64 0)).cell 3 rfl
    go_wp2_with fail
    try simp only [Exit.inBlock, Exit.then]
    refine bodyPost_ret (by simp [results, Tryd.results44, go_sem, z0, z1, z2, z3]; try rfl) rfl ?_
    have hb1 : b ≠ w.heap.size := fun e => HB1.out e.symm
    try unfold RiP
    rw [HQ.out]
    exact ⟨((((K2.out.setNew (Nat.le_refl _) _).setNew (Nat.le_refl _) _).setNew (Nat.le_refl _) _).setNew (Nat.le_refl _) _), .inr ⟨by decide, a + 1, ((((HX2.out.far hb1 _).far hb1 _).far hb1 _).far hb1 _), rfl⟩⟩
  rw [if_neg h16] at HW
  have hyes : isOp o = true := decide_eq_true (by omega)
  rw [hyes, if_pos rfl]
  have hfp := frm_pos o ⟨hg.1, by omega⟩
  clear hyes h16 FM
  have hfo := frm_in o
  have hfn : frm o ≠ -1 := by have := hfp; omega
  generalize hf : frm o = f at *
  have HF := Lib.hid hf
  clear hf
  have hnd := need_le f
  go_wp2_with fail
  refine (operandSize_any f _).mono ?_
  rintro r w3 ⟨rfl, rfl⟩
  go_wp2_with fail
  refine (NX.out (a + 1) (need f) (by omega) hnd _ HX2.out).mono ?_
  rintro r w4 ⟨m4, hd⟩
  have K4 := Lib.hid (K2.out.trans m4)
  have XS4 := Lib.hid (XS2.out.mb m4 HB1.out)
  have XI4 := Lib.hid (XI.out.mb m4 (by have := HBB.out; omega))
  clear m4 HX2 K2 XS2 XI x0
  rcases hd with ⟨hle4, v, rfl, ⟨A4, c4, rfl, hcap, hcut⟩, hx'⟩ | ⟨hle4, rfl, hx'⟩
  rotate_left
  · have HQ := Lib.hid (show wrg bs a = 5 by rw [HW.out, if_pos (by omega)])
    have HX1 := Lib.hid hx'
    clear hx'
    have s0 := XS4.out.frozen 0
    have s1 := XS4.out.frozen 1
    have s2 := XS4.out.frozen 2
    have s3 := XS4.out.frozen 3
    have s4 := XS4.out.cell 0 rfl
    have s5 := XS4.out.cell 1 rfl
    have s6 := XS4.out.cell 2 rfl
    have s7 := XS4.out.cell 3 rfl
    have z0 := (XS4.out.put 0 (.int .i64 0)).cell 0 rfl
    have z1 := ((XS4.out.put 0 (.int .i64 0)).put 1 (.int .i64 0)).cell 1 rfl
    have z2 := (((XS4.out.put 0 (.int .i64 0)).put 1 (.int .i64 0)).put 2 (.int .i64 0)).cell 2 rfl
    have z3 := ((((XS4.out.put 0 (.int .i64 0)).put 1 (.int .i64 0)).put 2 (.int .i64 0)).put 3 (.int .i64 0)).cell 3 rfl
    go_wp2_with fail
    try simp only [Exit.inBlock, Exit.then]
    refine bodyPost_ret (by simp [results, Tryd.results44, go_sem, z0, z1, z2, z3]; try rfl) rfl ?_
    have hb1 : b ≠ w.heap.size := fun e => HB1.out e.symm
    try unfold RiP
    rw [HQ.out]
    exact ⟨((((K4.out.setNew (Nat.le_refl _) _).setNew (Nat.le_refl _) _).setNew (Nat.le_refl _) _).setNew (Nat.le_refl _) _), .inr ⟨by decide, a + 1, ((((HX1.out.far hb1 _).far hb1 _).far hb1 _).far hb1 _), rfl⟩⟩
  have HQ := Lib.hid (show wrg bs a = 0 by rw [HW.out, if_neg (by omega)])
  have HX4 := Lib.hid hx'
  have HR4 := Lib.hid (HR.out.mb K4.out HNE.out)
  have HC4 := Lib.hid (hcut _ _ HR4.out HL.out)
  have HLC := Lib.hid (show ((bs.drop (a + 1)).take (need f)).length = need f from cut_len (by rw [HL.out]; exact hle4))
  have HG0 := Lib.hid (show ∀ j, j < need f → gb ((bs.drop (a + 1)).take (need f)) j = gb bs (a + 1 + j) from fun j hj => gb_cut hj)
  have HG1 := Lib.hid (show ∀ j, j + 1 < need f → gn ((bs.drop (a + 1)).take (need f)) j = gn bs (a + 1 + j) from fun j hj => gn_cut' hj)
  have HCUT := Lib.hid (fun w (h : RdY w A bs) => hcut w bs h HL.out)
  clear hx' hcut HW HR4
  have hf5 : f = 0 ∨ f = 1 ∨ f = 3 ∨ f = 2 ∨ f = 4 := by omega
  clear hfo hfn hnd hle4 hfp
  generalize (bs.drop (a + 1)).take (need f) = cs at *
  rcases hf5 with rfl | rfl | rfl | rfl | rfl
  · rw [show need 0 = 0 from rfl] at HX4 HLC HG0 HG1 hcap ⊢
    go_wp2_with fail
    refine (hasAddr_any _ _).mono ?_
    rintro r y1 ⟨rfl, rfl⟩
    rw [show hA 0 = false from rfl]
    go_wp2_with fail
    refine (hasNumber_any _ _).mono ?_
    rintro r y2 ⟨rfl, rfl⟩
    rw [show hN 0 = false from rfl]
    have XI5 := XI4
    have XS5 := XS4
    have K5 := K4
    have HX5 := HX4
    have l0 := XI5.out.cell 0 rfl
    have s0 := XS5.out.frozen 0
    have r0 := XS5.out.cell 0 rfl
    have l1 := XI5.out.cell 1 rfl
    have s1 := XS5.out.frozen 1
    have r1 := XS5.out.cell 1 rfl
    have l2 := XI5.out.cell 2 rfl
    have s2 := XS5.out.frozen 2
    have r2 := XS5.out.cell 2 rfl
    have l3 := XI5.out.cell 3 rfl
    have s3 := XS5.out.frozen 3
    have r3 := XS5.out.cell 3 rfl
    have z0 := (XS5.out.put 0 (.int .i64 o)).cell 0 rfl
    have z1 := ((XS5.out.put 0 (.int .i64 o)).put 1 (.int .i64 0)).cell 1 rfl
    have z2 := (((XS5.out.put 0 (.int .i64 o)).put 1 (.int .i64 0)).put 2 (.int .i64 0)).cell 2 rfl
    have z3 := ((((XS5.out.put 0 (.int .i64 o)).put 1 (.int .i64 0)).put 2 (.int .i64 0)).put 3 (.int .i64 0)).cell 3 rfl
    go_wp2_with fail
    try simp only [Exit.inBlock, Exit.then]
    refine bodyPost_ret (by simp [results, Tryd.results44, go_sem, z0, z1, z2, z3]; try rfl) rfl ?_
    have hb1 : b ≠ w.heap.size := fun e => HB1.out e.symm
    try unfold RiP
    refine ⟨(((K5.out.setNew (Nat.le_refl _) _).setNew (Nat.le_refl _) _).setNew (Nat.le_refl _) _).setNew (Nat.le_refl _) _, .inl ⟨HQ.out, ?_, ?_⟩⟩
    · rw [HINS.out]
      rfl
    · rw [HO.out, HF.out]
      show Rdr _ b A n c (a + 1 + 0)
      exact (((HX5.out.far hb1 _).far hb1 _).far hb1 _).far hb1 _
  · rw [show need 1 = 2 from rfl] at HX4 HLC HG0 HG1 hcap ⊢
    go_wp2_with fail
    refine (hasAddr_any _ _).mono ?_
    rintro r y1 ⟨rfl, rfl⟩
    rw [show hA 1 = true from rfl]
    obtain ⟨ad4, rfl⟩ := HC4.out.atA (by rw [HLC.out]; decide)
    have c0 := HC4.out.atB (by rw [HLC.out]; decide)
    have c1 := HC4.out.at1B (by rw [HLC.out]; decide)
    rw [HG0.out 0 (by decide)] at c0
    rw [HG0.out 1 (by decide)] at c1
    have i1 := XI4.out.frozen 1
    have i2 := XI4.out.frozen 2
    have i3 := XI4.out.cell 1 rfl
    have i4 := XI4.out.cell 2 rfl
    have g0 := gb_in bs (a + 1 + 0)
    have g1 := gb_in bs (a + 1 + 1)
    obtain ⟨G0, hG0⟩ : ∃ G0, gb bs (a + 1 + 0) = G0 := ⟨_, rfl⟩
    obtain ⟨G1, hG1⟩ : ∃ G1, gb bs (a + 1 + 1) = G1 := ⟨_, rfl⟩
    rw [hG0] at c0 g0
    rw [hG1] at c1 g1
    have E0 := Lib.hid (show gb bs (a + 1) = G0 from hG0)
    have E1 := Lib.hid (show gb bs (a + 2) = G1 from hG1)
    clear hG0 hG1
    go_wp2_with fail
    go_region
    have XIa := Lib.hid (show Bx ((w4.setCell ⟨ib, 1, none⟩ (.int .i64 G0)).setCell ⟨ib, 2, none⟩ (.int .i64 G1)).drew ib 46 [.int .i64 o, .int .i64 G0, .int .i64 G1, .int .i64 0] from Bx.nx ((XI4.out.put 1 _).put 2 _) (Nx.refl _).drew)
    have XSa := Lib.hid (show Bx ((w4.setCell ⟨ib, 1, none⟩ (.int .i64 G0)).setCell ⟨ib, 2, none⟩ (.int .i64 G1)).drew w.heap.size 46 [.int .i64 0, .int .i64 0, .int .i64 0, .int .i64 0] from Bx.nx ((XS4.out.far (by have := HIB.out; omega) _).far (by have := HIB.out; omega) _) (Nx.refl _).drew)
    have Ka := Lib.hid (show Mb b w ((w4.setCell ⟨ib, 1, none⟩ (.int .i64 G0)).setCell ⟨ib, 2, none⟩ (.int .i64 G1)).drew from ((K4.out.setNew (by have := HIB.out; omega) _).setNew (by have := HIB.out; omega) _).trans (Mb.nx (Nx.refl _).drew))
    have HXa := Lib.hid (show Rdr ((w4.setCell ⟨ib, 1, none⟩ (.int .i64 G0)).setCell ⟨ib, 2, none⟩ (.int .i64 G1)).drew b A n c (a + 1 + 2) from Bx.nx ((HX4.out.far (by have := HBB.out; omega) _).far (by have := HBB.out; omega) _) (Nx.refl _).drew)
    clear c0 c1 i1 i2 i3 i4 XI4 XS4 K4 HX4
    generalize ((w4.setCell ⟨ib, 1, none⟩ (.int .i64 G0)).setCell ⟨ib, 2, none⟩ (.int .i64 G1)).drew = w5 at *
    have hcap2 : (2 : Int) ≤ (c4 : Int) := by omega
    by_cases hc4 : c4 = 2
    · subst hc4
      go_wp2_with fail
      refine (hasNumber_any _ _).mono ?_
      rintro r y2 ⟨rfl, rfl⟩
      rw [show hN 1 = false from rfl]
      have XI5 := XIa
      have XS5 := XSa
      have K5 := Ka
      have HX5 := HXa
      have l0 := XI5.out.cell 0 rfl
      have s0 := XS5.out.frozen 0
      have r0 := XS5.out.cell 0 rfl
      have l1 := XI5.out.cell 1 rfl
      have s1 := XS5.out.frozen 1
      have r1 := XS5.out.cell 1 rfl
      have l2 := XI5.out.cell 2 rfl
      have s2 := XS5.out.frozen 2
      have r2 := XS5.out.cell 2 rfl
      have l3 := XI5.out.cell 3 rfl
      have s3 := XS5.out.frozen 3
      have r3 := XS5.out.cell 3 rfl
      have z0 := (XS5.out.put 0 (.int .i64 o)).cell 0 rfl
      have z1 := ((XS5.out.put 0 (.int .i64 o)).put 1 (.int .i64 G0)).cell 1 rfl
      have z2 := (((XS5.out.put 0 (.int .i64 o)).put 1 (.int .i64 G0)).put 2 (.int .i64 G1)).cell 2 rfl
      have z3 := ((((XS5.out.put 0 (.int .i64 o)).put 1 (.int .i64 G0)).put 2 (.int .i64 G1)).put 3 (.int .i64 0)).cell 3 rfl
      go_wp2_with fail
      try simp only [Exit.inBlock, Exit.then]
      refine bodyPost_ret (by simp [results, Tryd.results44, go_sem, z0, z1, z2, z3]; try rfl) rfl ?_
      have hb1 : b ≠ w.heap.size := fun e => HB1.out e.symm
      try unfold RiP
      refine ⟨(((K5.out.setNew (Nat.le_refl _) _).setNew (Nat.le_refl _) _).setNew (Nat.le_refl _) _).setNew (Nat.le_refl _) _, .inl ⟨HQ.out, ?_, ?_⟩⟩
      · rw [HINS.out]
        rw [E0.out, E1.out]; rfl
      · rw [HO.out, HF.out]
        show Rdr _ b A n c (a + 1 + 2)
        exact (((HX5.out.far hb1 _).far hb1 _).far hb1 _).far hb1 _
    · have hc4l : (2 : Int) < (c4 : Int) := by omega
      go_wp2_with fail
      refine (hasNumber_any _ _).mono ?_
      rintro r y2 ⟨rfl, rfl⟩
      rw [show hN 1 = false from rfl]
      have XI5 := XIa
      have XS5 := XSa
      have K5 := Ka
      have HX5 := HXa
      have l0 := XI5.out.cell 0 rfl
      have s0 := XS5.out.frozen 0
      have r0 := XS5.out.cell 0 rfl
      have l1 := XI5.out.cell 1 rfl
      have s1 := XS5.out.frozen 1
      have r1 := XS5.out.cell 1 rfl
      have l2 := XI5.out.cell 2 rfl
      have s2 := XS5.out.frozen 2
      have r2 := XS5.out.cell 2 rfl
      have l3 := XI5.out.cell 3 rfl
      have s3 := XS5.out.frozen 3
      have r3 := XS5.out.cell 3 rfl
      have z0 := (XS5.out.put 0 (.int .i64 o)).cell 0 rfl
      have z1 := ((XS5.out.put 0 (.int .i64 o)).put 1 (.int .i64 G0)).cell 1 rfl
      have z2 := (((XS5.out.put 0 (.int .i64 o)).put 1 (.int .i64 G0)).put 2 (.int .i64 G1)).cell 2 rfl
      have z3 := ((((XS5.out.put 0 (.int .i64 o)).put 1 (.int .i64 G0)).put 2 (.int .i64 G1)).put 3 (.int .i64 0)).cell 3 rfl
      go_wp2_with fail
      try simp only [Exit.inBlock, Exit.then]
      refine bodyPost_ret (by simp [results, Tryd.results44, go_sem, z0, z1, z2, z3]; try rfl) rfl ?_
      have hb1 : b ≠ w.heap.size := fun e => HB1.out e.symm
      try unfold RiP
      refine ⟨(((K5.out.setNew (Nat.le_refl _) _).setNew (Nat.le_refl _) _).setNew (Nat.le_refl _) _).setNew (Nat.le_refl _) _, .inl ⟨HQ.out, ?_, ?_⟩⟩
      · rw [HINS.out]
        rw [E0.out, E1.out]; rfl
      · rw [HO.out, HF.out]
        show Rdr _ b A n c (a + 1 + 2)
        exact (((HX5.out.far hb1 _).far hb1 _).far hb1 _).far hb1 _
  · rw [show need 3 = 2 from rfl] at HX4 HLC HG0 HG1 hcap ⊢
    go_wp2_with fail
    refine (hasAddr_any _ _).mono ?_
    rintro r y1 ⟨rfl, rfl⟩
    rw [show hA 3 = true from rfl]
    obtain ⟨ad4, rfl⟩ := HC4.out.atA (by rw [HLC.out]; decide)
    have c0 := HC4.out.atB (by rw [HLC.out]; decide)
    have c1 := HC4.out.at1B (by rw [HLC.out]; decide)
    rw [HG0.out 0 (by decide)] at c0
    rw [HG0.out 1 (by decide)] at c1
    have i1 := XI4.out.frozen 1
    have i2 := XI4.out.frozen 2
    have i3 := XI4.out.cell 1 rfl
    have i4 := XI4.out.cell 2 rfl
    have g0 := gb_in bs (a + 1 + 0)
    have g1 := gb_in bs (a + 1 + 1)
    obtain ⟨G0, hG0⟩ : ∃ G0, gb bs (a + 1 + 0) = G0 := ⟨_, rfl⟩
    obtain ⟨G1, hG1⟩ : ∃ G1, gb bs (a + 1 + 1) = G1 := ⟨_, rfl⟩
    rw [hG0] at c0 g0
    rw [hG1] at c1 g1
    have E0 := Lib.hid (show gb bs (a + 1) = G0 from hG0)
    have E1 := Lib.hid (show gb bs (a + 2) = G1 from hG1)
    clear hG0 hG1
    go_wp2_with fail
    go_region
    have XIa := Lib.hid (show Bx ((w4.setCell ⟨ib, 1, none⟩ (.int .i64 G0)).setCell ⟨ib, 2, none⟩ (.int .i64 G1)).drew ib 46 [.int .i64 o, .int .i64 G0, .int .i64 G1, .int .i64 0] from Bx.nx ((XI4.out.put 1 _).put 2 _) (Nx.refl _).drew)
    have XSa := Lib.hid (show Bx ((w4.setCell ⟨ib, 1, none⟩ (.int .i64 G0)).setCell ⟨ib, 2, none⟩ (.int .i64 G1)).drew w.heap.size 46 [.int .i64 0, .int .i64 0, .int .i64 0, .int .i64 0] from Bx.nx ((XS4.out.far (by have := HIB.out; omega) _).far (by have := HIB.out; omega) _) (Nx.refl _).drew)
    have Ka := Lib.hid (show Mb b w ((w4.setCell ⟨ib, 1, none⟩ (.int .i64 G0)).setCell ⟨ib, 2, none⟩ (.int .i64 G1)).drew from ((K4.out.setNew (by have := HIB.out; omega) _).setNew (by have := HIB.out; omega) _).trans (Mb.nx (Nx.refl _).drew))
    have HXa := Lib.hid (show Rdr ((w4.setCell ⟨ib, 1, none⟩ (.int .i64 G0)).setCell ⟨ib, 2, none⟩ (.int .i64 G1)).drew b A n c (a + 1 + 2) from Bx.nx ((HX4.out.far (by have := HBB.out; omega) _).far (by have := HBB.out; omega) _) (Nx.refl _).drew)
    clear c0 c1 i1 i2 i3 i4 XI4 XS4 K4 HX4
    generalize ((w4.setCell ⟨ib, 1, none⟩ (.int .i64 G0)).setCell ⟨ib, 2, none⟩ (.int .i64 G1)).drew = w5 at *
    have hcap2 : (2 : Int) ≤ (c4 : Int) := by omega
    by_cases hc4 : c4 = 2
    · subst hc4
      go_wp2_with fail
      refine (hasNumber_any _ _).mono ?_
      rintro r y2 ⟨rfl, rfl⟩
      rw [show hN 3 = false from rfl]
      have XI5 := XIa
      have XS5 := XSa
      have K5 := Ka
      have HX5 := HXa
      have l0 := XI5.out.cell 0 rfl
      have s0 := XS5.out.frozen 0
      have r0 := XS5.out.cell 0 rfl
      have l1 := XI5.out.cell 1 rfl
      have s1 := XS5.out.frozen 1
      have r1 := XS5.out.cell 1 rfl
      have l2 := XI5.out.cell 2 rfl
      have s2 := XS5.out.frozen 2
      have r2 := XS5.out.cell 2 rfl
      have l3 := XI5.out.cell 3 rfl
      have s3 := XS5.out.frozen 3
      have r3 := XS5.out.cell 3 rfl
      have z0 := (XS5.out.put 0 (.int .i64 o)).cell 0 rfl
      have z1 := ((XS5.out.put 0 (.int .i64 o)).put 1 (.int .i64 G0)).cell 1 rfl
      have z2 := (((XS5.out.put 0 (.int .i64 o)).put 1 (.int .i64 G0)).put 2 (.int .i64 G1)).cell 2 rfl
      have z3 := ((((XS5.out.put 0 (.int .i64 o)).put 1 (.int .i64 G0)).put 2 (.int .i64 G1)).put 3 (.int .i64 0)).cell 3 rfl
      go_wp2_with fail
      try simp only [Exit.inBlock, Exit.then]
      refine bodyPost_ret (by simp [results, Tryd.results44, go_sem, z0, z1, z2, z3]; try rfl) rfl ?_
      have hb1 : b ≠ w.heap.size := fun e => HB1.out e.symm
      try unfold RiP
      refine ⟨(((K5.out.setNew (Nat.le_refl _) _).setNew (Nat.le_refl _) _).setNew (Nat.le_refl _) _).setNew (Nat.le_refl _) _, .inl ⟨HQ.out, ?_, ?_⟩⟩
      · rw [HINS.out]
        rw [E0.out, E1.out]; rfl
      · rw [HO.out, HF.out]
        show Rdr _ b A n c (a + 1 + 2)
        exact (((HX5.out.far hb1 _).far hb1 _).far hb1 _).far hb1 _
    · have hc4l : (2 : Int) < (c4 : Int) := by omega
      go_wp2_with fail
      refine (hasNumber_any _ _).mono ?_
      rintro r y2 ⟨rfl, rfl⟩
      rw [show hN 3 = false from rfl]
      have XI5 := XIa
      have XS5 := XSa
      have K5 := Ka
      have HX5 := HXa
      have l0 := XI5.out.cell 0 rfl
      have s0 := XS5.out.frozen 0
      have r0 := XS5.out.cell 0 rfl
      have l1 := XI5.out.cell 1 rfl
      have s1 := XS5.out.frozen 1
      have r1 := XS5.out.cell 1 rfl
      have l2 := XI5.out.cell 2 rfl
      have s2 := XS5.out.frozen 2
      have r2 := XS5.out.cell 2 rfl
      have l3 := XI5.out.cell 3 rfl
      have s3 := XS5.out.frozen 3
      have r3 := XS5.out.cell 3 rfl
      have z0 := (XS5.out.put 0 (.int .i64 o)).cell 0 rfl
      have z1 := ((XS5.out.put 0 (.int .i64 o)).put 1 (.int .i64 G0)).cell 1 rfl
      have z2 := (((XS5.out.put 0 (.int .i64 o)).put 1 (.int .i64 G0)).put 2 (.int .i64 G1)).cell 2 rfl
      have z3 := ((((XS5.out.put 0 (.int .i64 o)).put 1 (.int .i64 G0)).put 2 (.int .i64 G1)).put 3 (.int .i64 0)).cell 3 rfl
      go_wp2_with fail
      try simp only [Exit.inBlock, Exit.then]
      refine bodyPost_ret (by simp [results, Tryd.results44, go_sem, z0, z1, z2, z3]; try rfl) rfl ?_
      have hb1 : b ≠ w.heap.size := fun e => HB1.out e.symm
      try unfold RiP
      refine ⟨(((K5.out.setNew (Nat.le_refl _) _).setNew (Nat.le_refl _) _).setNew (Nat.le_refl _) _).setNew (Nat.le_refl _) _, .inl ⟨HQ.out, ?_, ?_⟩⟩
      · rw [HINS.out]
        rw [E0.out, E1.out]; rfl
      · rw [HO.out, HF.out]
        show Rdr _ b A n c (a + 1 + 2)
        exact (((HX5.out.far hb1 _).far hb1 _).far hb1 _).far hb1 _
  · rw [show need 2 = 4 from rfl] at HX4 HLC HG0 HG1 hcap ⊢
    go_wp2_with fail
    refine (hasAddr_any _ _).mono ?_
    rintro r y1 ⟨rfl, rfl⟩
    rw [show hA 2 = true from rfl]
    obtain ⟨ad4, rfl⟩ := HC4.out.atA (by rw [HLC.out]; decide)
    have c0 := HC4.out.atB (by rw [HLC.out]; decide)
    have c1 := HC4.out.at1B (by rw [HLC.out]; decide)
    rw [HG0.out 0 (by decide)] at c0
    rw [HG0.out 1 (by decide)] at c1
    have i1 := XI4.out.frozen 1
    have i2 := XI4.out.frozen 2
    have i3 := XI4.out.cell 1 rfl
    have i4 := XI4.out.cell 2 rfl
    have g0 := gb_in bs (a + 1 + 0)
    have g1 := gb_in bs (a + 1 + 1)
    obtain ⟨G0, hG0⟩ : ∃ G0, gb bs (a + 1 + 0) = G0 := ⟨_, rfl⟩
    obtain ⟨G1, hG1⟩ : ∃ G1, gb bs (a + 1 + 1) = G1 := ⟨_, rfl⟩
    rw [hG0] at c0 g0
    rw [hG1] at c1 g1
    have E0 := Lib.hid (show gb bs (a + 1) = G0 from hG0)
    have E1 := Lib.hid (show gb bs (a + 2) = G1 from hG1)
    clear hG0 hG1
    go_wp2_with fail
    go_region
    have XIa := Lib.hid (show Bx ((w4.setCell ⟨ib, 1, none⟩ (.int .i64 G0)).setCell ⟨ib, 2, none⟩ (.int .i64 G1)).drew ib 46 [.int .i64 o, .int .i64 G0, .int .i64 G1, .int .i64 0] from Bx.nx ((XI4.out.put 1 _).put 2 _) (Nx.refl _).drew)
    have XSa := Lib.hid (show Bx ((w4.setCell ⟨ib, 1, none⟩ (.int .i64 G0)).setCell ⟨ib, 2, none⟩ (.int .i64 G1)).drew w.heap.size 46 [.int .i64 0, .int .i64 0, .int .i64 0, .int .i64 0] from Bx.nx ((XS4.out.far (by have := HIB.out; omega) _).far (by have := HIB.out; omega) _) (Nx.refl _).drew)
    have Ka := Lib.hid (show Mb b w ((w4.setCell ⟨ib, 1, none⟩ (.int .i64 G0)).setCell ⟨ib, 2, none⟩ (.int .i64 G1)).drew from ((K4.out.setNew (by have := HIB.out; omega) _).setNew (by have := HIB.out; omega) _).trans (Mb.nx (Nx.refl _).drew))
    have HXa := Lib.hid (show Rdr ((w4.setCell ⟨ib, 1, none⟩ (.int .i64 G0)).setCell ⟨ib, 2, none⟩ (.int .i64 G1)).drew b A n c (a + 1 + 4) from Bx.nx ((HX4.out.far (by have := HBB.out; omega) _).far (by have := HBB.out; omega) _) (Nx.refl _).drew)
    have HCa := Lib.hid (show RdY ((w4.setCell ⟨ib, 1, none⟩ (.int .i64 G0)).setCell ⟨ib, 2, none⟩ (.int .i64 G1)).drew (some ad4) cs from HCUT.out _ (HR.out.mb Ka.out HNE.out))
    clear c0 c1 i1 i2 i3 i4 XI4 XS4 K4 HX4
    generalize ((w4.setCell ⟨ib, 1, none⟩ (.int .i64 G0)).setCell ⟨ib, 2, none⟩ (.int .i64 G1)).drew = w5 at *
    have hc4l : (2 : Int) < (c4 : Int) := by omega
    go_wp2_with fail
    refine (hasNumber_any _ _).mono ?_
    rintro r y2 ⟨rfl, rfl⟩
    rw [show hN 2 = true from rfl]
    have HRa := Lib.hid (show RdY w5 (some (ad4.add 2)) (cs.drop 2) from HCa.out.drop)
    go_wp2_with fail
    refine (number_any (some (ad4.add 2)) (cs.drop 2) 2 (c4 - 2) (by rw [List.length_drop, HLC.out]) (Nat.le_refl _) (by decide) w5 HRa.out).mono ?_
    rintro r w6 ⟨rfl, q6⟩
    rw [gn_drop, HG1.out 2 (by decide)]
    have XI6 := Lib.hid (XIa.out.nx q6)
    have XS6 := Lib.hid (XSa.out.nx q6)
    have K6 := Lib.hid (Ka.out.trans (Mb.nx q6))
    have HX6 := Lib.hid (HXa.out.nx q6)
    have i1 := XI6.out.frozen 3
    have i2 := XI6.out.cell 3 rfl
    obtain ⟨G3, hG3⟩ : ∃ G3, gn bs (a + 1 + 2) = G3 := ⟨_, rfl⟩
    have E3 := Lib.hid hG3
    rw [hG3]
    clear hG3 q6
    have XI5 := Lib.hid (XI6.out.put 3 (.int .i64 G3))
    have XS5 := Lib.hid (XS6.out.far (show w.heap.size ≠ ib by have := HIB.out; omega) (b := ib) (i := 3) (o := none) (.int .i64 G3))
    have K5 := Lib.hid (K6.out.setNew (show w.heap.size ≤ ib by have := HIB.out; omega) (i := 3) (o := none) (.int .i64 G3))
    have HX5 := Lib.hid (Bx.far HX6.out (show b ≠ ib by have := HBB.out; omega) (i := 3) (o := none) (.int .i64 G3))
    have l0 := XI5.out.cell 0 rfl
    have s0 := XS5.out.frozen 0
    have r0 := XS5.out.cell 0 rfl
    have l1 := XI5.out.cell 1 rfl
    have s1 := XS5.out.frozen 1
    have r1 := XS5.out.cell 1 rfl
    have l2 := XI5.out.cell 2 rfl
    have s2 := XS5.out.frozen 2
    have r2 := XS5.out.cell 2 rfl
    have l3 := XI5.out.cell 3 rfl
    have s3 := XS5.out.frozen 3
    have r3 := XS5.out.cell 3 rfl
    have z0 := (XS5.out.put 0 (.int .i64 o)).cell 0 rfl
    have z1 := ((XS5.out.put 0 (.int .i64 o)).put 1 (.int .i64 G0)).cell 1 rfl
    have z2 := (((XS5.out.put 0 (.int .i64 o)).put 1 (.int .i64 G0)).put 2 (.int .i64 G1)).cell 2 rfl
    have z3 := ((((XS5.out.put 0 (.int .i64 o)).put 1 (.int .i64 G0)).put 2 (.int .i64 G1)).put 3 (.int .i64 G3)).cell 3 rfl
    go_wp2_with fail
    try simp only [Exit.inBlock, Exit.then]
    refine bodyPost_ret (by simp [results, Tryd.results44, go_sem, z0, z1, z2, z3]; try rfl) rfl ?_
    have hb1 : b ≠ w.heap.size := fun e => HB1.out e.symm
    try unfold RiP
    refine ⟨(((K5.out.setNew (Nat.le_refl _) _).setNew (Nat.le_refl _) _).setNew (Nat.le_refl _) _).setNew (Nat.le_refl _) _, .inl ⟨HQ.out, ?_, ?_⟩⟩
    · rw [HINS.out]
      rw [E0.out, E1.out]; exact (congrArg (fun z => Ending.returned (.tuple #[.agg #[.int .i64 o, .int .i64 G0, .int .i64 G1, .int .i64 z], .int .i64 0])) E3.out.symm)
    · rw [HO.out, HF.out]
      show Rdr _ b A n c (a + 1 + 4)
      exact (((HX5.out.far hb1 _).far hb1 _).far hb1 _).far hb1 _
  · rw [show need 4 = 2 from rfl] at HX4 HLC HG0 HG1 hcap ⊢
    go_wp2_with fail
    refine (hasAddr_any _ _).mono ?_
    rintro r y1 ⟨rfl, rfl⟩
    rw [show hA 4 = false from rfl]
    go_wp2_with fail
    refine (hasNumber_any _ _).mono ?_
    rintro r y2 ⟨rfl, rfl⟩
    rw [show hN 4 = true from rfl]
    go_wp2_with fail
    refine (number_any A4 cs 2 c4 HLC.out (Nat.le_refl _) (by decide) w4 HC4.out).mono ?_
    rintro r w6 ⟨rfl, q6⟩
    rw [HG1.out 0 (by decide)]
    have XI6 := Lib.hid (XI4.out.nx q6)
    have XS6 := Lib.hid (XS4.out.nx q6)
    have K6 := Lib.hid (K4.out.trans (Mb.nx q6))
    have HX6 := Lib.hid (HX4.out.nx q6)
    have i1 := XI6.out.frozen 3
    have i2 := XI6.out.cell 3 rfl
    obtain ⟨G3, hG3⟩ : ∃ G3, gn bs (a + 1 + 0) = G3 := ⟨_, rfl⟩
    have E3 := Lib.hid hG3
    rw [hG3]
    clear hG3 q6
    have XI5 := Lib.hid (XI6.out.put 3 (.int .i64 G3))
    have XS5 := Lib.hid (XS6.out.far (show w.heap.size ≠ ib by have := HIB.out; omega) (b := ib) (i := 3) (o := none) (.int .i64 G3))
    have K5 := Lib.hid (K6.out.setNew (show w.heap.size ≤ ib by have := HIB.out; omega) (i := 3) (o := none) (.int .i64 G3))
    have HX5 := Lib.hid (Bx.far HX6.out (show b ≠ ib by have := HBB.out; omega) (i := 3) (o := none) (.int .i64 G3))
    have l0 := XI5.out.cell 0 rfl
    have s0 := XS5.out.frozen 0
    have r0 := XS5.out.cell 0 rfl
    have l1 := XI5.out.cell 1 rfl
    have s1 := XS5.out.frozen 1
    have r1 := XS5.out.cell 1 rfl
    have l2 := XI5.out.cell 2 rfl
    have s2 := XS5.out.frozen 2
    have r2 := XS5.out.cell 2 rfl
    have l3 := XI5.out.cell 3 rfl
    have s3 := XS5.out.frozen 3
    have r3 := XS5.out.cell 3 rfl
    have z0 := (XS5.out.put 0 (.int .i64 o)).cell 0 rfl
    have z1 := ((XS5.out.put 0 (.int .i64 o)).put 1 (.int .i64 0)).cell 1 rfl
    have z2 := (((XS5.out.put 0 (.int .i64 o)).put 1 (.int .i64 0)).put 2 (.int .i64 0)).cell 2 rfl
    have z3 := ((((XS5.out.put 0 (.int .i64 o)).put 1 (.int .i64 0)).put 2 (.int .i64 0)).put 3 (.int .i64 G3)).cell 3 rfl
    go_wp2_with fail
    try simp only [Exit.inBlock, Exit.then]
    refine bodyPost_ret (by simp [results, Tryd.results44, go_sem, z0, z1, z2, z3]; try rfl) rfl ?_
    have hb1 : b ≠ w.heap.size := fun e => HB1.out e.symm
    try unfold RiP
    refine ⟨(((K5.out.setNew (Nat.le_refl _) _).setNew (Nat.le_refl _) _).setNew (Nat.le_refl _) _).setNew (Nat.le_refl _) _, .inl ⟨HQ.out, ?_, ?_⟩⟩
    · rw [HINS.out]
      exact (congrArg (fun z => Ending.returned (.tuple #[.agg #[.int .i64 o, .int .i64 0, .int .i64 0, .int .i64 z], .int .i64 0])) E3.out.symm)
    · rw [HO.out, HF.out]
      show Rdr _ b A n c (a + 1 + 2)
      exact (((HX5.out.far hb1 _).far hb1 _).far hb1 _).far hb1 _
end Go.Proofs.YtdiamajkfbejhaaDoor
