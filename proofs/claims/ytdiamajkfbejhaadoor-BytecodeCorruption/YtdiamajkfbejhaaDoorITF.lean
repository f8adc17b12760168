/- What the decoder's read returns. Conditions: bytes that read as a list; the table of opcodes holds what the program's text lays. -/
import Derived.Test.YtdiamajkfbejhaaDoorITC
import Derived.Test.YtdiamajkfbejhaaDoorITD
import Derived.Test.YtdiamajkfbejhaaDoorITE
import Derived.Test.YtdiamajkfbejhaaDoorIT2
import Derived.Test.YtdiamajkfbejhaaDoorIN4
import Derived.Lib.SmallJoins
namespace Go.Proofs.YtdiamajkfbejhaaDoor
open Go.RowKit

/-- Below B nothing but block r may have turned. -/
structure Mq (r B : Nat) (w w' : World) : Prop where
  os : w'.os = w.os
  tape : w'.tape = w.tape
  output : w'.output = w.output
  size : w.heap.size ≤ w'.heap.size
  block : ∀ i, i < B → i ≠ r → w'.heap[i]? = w.heap[i]?
theorem Mq.refl (r B : Nat) (w : World) : Mq r B w w := ⟨rfl, rfl, rfl, Nat.le_refl _, fun _ _ _ => rfl⟩
theorem Mq.trans {r B : Nat} {x y z : World} (h : Mq r B x y) (k : Mq r B y z) : Mq r B x z := ⟨k.os.trans h.os, k.tape.trans h.tape, k.output.trans h.output, Nat.le_trans h.size k.size, fun i hi hne => (k.block i hi hne).trans (h.block i hi hne)⟩
theorem Mq.mb {r B : Nat} {x y : World} (h : Mb r x y) (hB : B ≤ x.heap.size) : Mq r B x y := ⟨h.os, h.tape, h.output, h.size, fun i hi hne => h.block i (by omega) (fun e => hne (Option.some.inj e))⟩
theorem Mq.below {r B : Nat} {x y : World} (h : Below B x y) : Mq r B x y := ⟨h.os, h.tape, h.output, h.size, fun i hi _ => h.block i hi⟩
theorem Mq.nx {r B : Nat} {w x y : World} (h : Nx w x) (k : Mq r B x y) (hB : w.heap.size ≤ B) (hr : w.heap.size ≤ r) : Nx w y :=
  ⟨k.os.trans h.os, k.tape.trans h.tape, k.output.trans h.output, Nat.le_trans h.size k.size, fun i hi => (k.block i (by omega) (by omega)).trans (h.block i hi)⟩
theorem Bx.mq {r B g : Nat} {x y : World} {T : TypeId} {vs : List Value} (h : Bx x g T vs) (k : Mq r B x y) (hg : g < B) (hne : g ≠ r) : Bx y g T vs := (k.block g hg hne).trans h
theorem RdY.bx {w : World} {g : Nat} {bs : List UInt8} {T : TypeId} (h : Bx w g T (byt bs)) : RdY w (some ⟨g, 0, none⟩) bs := fun k b hk => ⟨_, rfl, by rw [Addr.add_lit, Nat.zero_add]; exact h.cell _ (byt_at hk)⟩
theorem OwC.mb {w w' : World} {B r : Nat} {v : Value} {code : List In4} (h : OwC w B v code) (k : Mb r w w') (hr : r < B) : OwC w' B v code := own_of h fun g hg hlt => k.block g hlt (fun e => by have := (World.ownsRow.lt h g hg).1; have := Option.some.inj e; omega)
theorem RdC.nilC (w : World) (A : Option Addr) : RdC w A [] := fun k x hk => by simp at hk
theorem cell_far {w : World} {g i : Nat} {o : Option Nat} {v : Value} {ad : Addr} {j : Nat} (hne : ad.block ≠ g) : (w.setCell ⟨g, i, o⟩ v).cell? (ad.add j) = w.cell? (ad.add j) :=
  World.cell?_of_block (Below.heap_setCell w ⟨g, i, o⟩ v _ (by rw [show (ad.add j).block = ad.block by unfold Addr.add; split <;> rfl]; exact hne))
theorem RdC.far {w : World} {A : Option Addr} {code : List In4} {g i : Nat} {o : Option Nat} {v : Value} (h : RdC w A code) (hne : ∀ ad, A = some ad → ad.block ≠ g) : RdC (w.setCell ⟨g, i, o⟩ v) A code := fun k x hx => by
  obtain ⟨ad, e, h1, h2, h3, h4⟩ := h k x hx
  have hn := hne ad e
  exact ⟨ad, e, (cell_far hn).trans h1, (cell_far hn).trans h2, (cell_far hn).trans h3, (cell_far hn).trans h4⟩
theorem ins_snoc (l : List In4) (x : In4) : ins (l ++ [x]) = ins l ++ [.int .i64 x.op, .int .i64 x.k, .int .i64 x.n, .int .i64 x.t] := by
  induction l with
  | nil => rfl
  | cons y l ih => simp only [List.cons_append, ins, ih]
theorem Ev.posW {w : World} (h : Ev w) : 0 < w.heap.size := World.block_lt_of_cell? w _ (h.tb 1 _ (tbl_form 0 (by decide)))
/-- A decoder's answers as its results. -/
def DrP (d : DR) (w : World) (r : Ending) (w' : World) : Prop :=
  ∃ A' c', r = .returned (.tuple #[pgV d.i d.q d.m d.e A' d.code.length c', .int .i64 (d.at' : Int), .int .i64 d.err]) ∧ RdC w' A' d.code ∧ (A' = none → c' = 0) ∧ (∀ ad, A' = some ad → w.heap.size ≤ ad.block) ∧ Nx w w'
theorem DrP.bad {a : Nat} {x : Int} {w w' : World} {r : Ending} (h : r = .returned (.tuple #[.agg #[.int .i64 0, .int .i64 0, .int .i64 0, .int .i64 0, .slice none 0 0], .int .i64 (a : Int), .int .i64 x])) (k : Nx w w') : DrP (Go.Proofs.YtdiamajkfbejhaaDoor.bad a x) w r w' :=
  ⟨none, 0, h, RdC.nilC _ _, fun _ => rfl, (fun ad e => by cases e), k⟩
set_option maxHeartbeats 12800000 in
set_option maxRecDepth 100000 in
theorem read_any (A : Option Addr) (bs : List UInt8) (n c : Nat) (hn : bs.length = n) (hl : n ≤ c) (hc : c ≤ maxLen) (hA : A = none → c = 0) (w : World) (hr : RdY w A bs) (he : Ev w) :
    Calls Tryd.prog 27 #[.slice A n c] w (DrP (rdA bs) w) := by
  have HR := Lib.hid hr
  have HL := Lib.hid hn
  have HE := Lib.hid he
  have HHN := Lib.hid hl
  have HHC := Lib.hid hc
  have HHA := Lib.hid hA
  have N0 := Lib.hid (show Nx w ((w.alloc (.cells #[.int .i64 0, .int .i64 0, .int .i64 0, .int .i64 0, .slice none 0 0] 26)).alloc (.cells #[.int .u8 66, .int .u8 66, .int .u8 49] 5 (3, 4))) from (Nx.one _ _).alloc _)
  have XS0 := Lib.hid (show Bx ((w.alloc (.cells #[.int .i64 0, .int .i64 0, .int .i64 0, .int .i64 0, .slice none 0 0] 26)).alloc (.cells #[.int .u8 66, .int .u8 66, .int .u8 49] 5 (3, 4))) w.heap.size 26 [.int .i64 0, .int .i64 0, .int .i64 0, .int .i64 0, .slice none 0 0] from (bx_new w 26 [.int .i64 0, .int .i64 0, .int .i64 0, .int .i64 0, .slice none 0 0]).nx (Nx.one _ _))
  have XM0 := Lib.hid (show RdY ((w.alloc (.cells #[.int .i64 0, .int .i64 0, .int .i64 0, .int .i64 0, .slice none 0 0] 26)).alloc (.cells #[.int .u8 66, .int .u8 66, .int .u8 49] 5 (3, 4))) (some ⟨w.heap.size + 1, 0, none⟩) mgc from fun k b hk => ⟨_, rfl, by
    rw [Addr.add_lit, Nat.zero_add, Go.Joins.cell_alloc_mark_at _ _ _ _ _ _ (by simp)]
    show (byt mgc).toArray[k]? = _
    rw [List.getElem?_toArray]
    exact byt_at hk⟩)
  have HP := Lib.hid (hasPrefix_any A bs n c ⟨w.heap.size + 1, 0, none⟩ hn hl hc _ (hr.nx N0.out) XM0.out)
  have HAD := Lib.hid (show ∀ ad, A = some ad → 3 ≤ n → ad.block < w.heap.size from fun ad e h => by
    obtain ⟨ad', e', hc'⟩ := hr.at0 (by omega)
    rw [e] at e'
    obtain rfl := Option.some.inj e'
    exact World.block_lt_of_cell? w _ hc')
  have HRD := Lib.hid (show rdA bs = if hasM bs = false then bad 0 6 else if n < 13 then bad n 5
      else if fst (dfl bs) (cnt' bs) < cnt' bs then (if dfl bs (fst (dfl bs) (cnt' bs)) = 8 then bad (dst bs (fst (dfl bs) (cnt' bs))).1 8 else bad n 5)
      else if (dst bs (cnt' bs)).1 < n then bad (dst bs (cnt' bs)).1 7
      else ⟨gn bs 3, gn bs 5, gn bs 7, gn bs 9, (dst bs (cnt' bs)).2, n, 0⟩ by unfold rdA; rw [hn])
  have HM3 := Lib.hid (show hasM bs = true → 3 ≤ n from fun h => by
    have := congrArg List.length (of_decide_eq_true h)
    rw [List.length_take, hn] at this
    have h3' : mgc.length = 3 := rfl
    omega)
  clear hr he hn hl hc hA XM0
  obtain ⟨RA, hRA⟩ : ∃ RA, rdA bs = RA := ⟨_, rfl⟩
  rw [hRA] at HRD ⊢
  clear hRA
  have cv : (convert 28 28 (.slice (some ⟨w.heap.size + 1, 0, none⟩) 3 3)).run Tryd.prog ((w.alloc (.cells #[.int .i64 0, .int .i64 0, .int .i64 0, .int .i64 0, .slice none 0 0] 26)).alloc (.cells #[.int .u8 66, .int .u8 66, .int .u8 49] 5)) = .ok (.slice (some ⟨w.heap.size + 1, 0, none⟩) 3 3) ((w.alloc (.cells #[.int .i64 0, .int .i64 0, .int .i64 0, .int .i64 0, .slice none 0 0] 26)).alloc (.cells #[.int .u8 66, .int .u8 66, .int .u8 49] 5 (3, 4))) := Go.Joins.run_convert_bytes_const_at (w.alloc (.cells #[.int .i64 0, .int .i64 0, .int .i64 0, .int .i64 0, .slice none 0 0] 26)) 28 5 #[.int .u8 66, .int .u8 66, .int .u8 49] 3 3 (w.heap.size + 1) (by simp) Tryd.underlying28 Tryd.underlying5
  go_enter Tryd.func27, Tryd.ntmps27
  go_wp2_with fail
  clear cv
  generalize hW0 : ((w.alloc (.cells #[.int .i64 0, .int .i64 0, .int .i64 0, .int .i64 0, .slice none 0 0] 26)).alloc (.cells #[.int .u8 66, .int .u8 66, .int .u8 49] 5 (3, 4))) = V0 at *
  clear hW0
  refine HP.out.mono ?_
  rintro r w1 ⟨rfl, rfl⟩
  cases hM : hasM bs
  · rw [if_pos hM] at HRD
    clear hM
    have s0 := XS0.out.frozen 0
    have t0 := XS0.out.cell 0 rfl
    have s1 := XS0.out.frozen 1
    have t1 := XS0.out.cell 1 rfl
    have s2 := XS0.out.frozen 2
    have t2 := XS0.out.cell 2 rfl
    have s3 := XS0.out.frozen 3
    have t3 := XS0.out.cell 3 rfl
    have s4 := XS0.out.frozen 4
    have t4 := XS0.out.cell 4 rfl
    have z0 := (XS0.out.put 0 (.int .i64 0)).cell 0 rfl
    have z1 := ((XS0.out.put 0 (.int .i64 0)).put 1 (.int .i64 0)).cell 1 rfl
    have z2 := (((XS0.out.put 0 (.int .i64 0)).put 1 (.int .i64 0)).put 2 (.int .i64 0)).cell 2 rfl
    have z3 := ((((XS0.out.put 0 (.int .i64 0)).put 1 (.int .i64 0)).put 2 (.int .i64 0)).put 3 (.int .i64 0)).cell 3 rfl
    have z4 := (((((XS0.out.put 0 (.int .i64 0)).put 1 (.int .i64 0)).put 2 (.int .i64 0)).put 3 (.int .i64 0)).put 4 (.slice none 0 0)).cell 4 rfl
    go_wp2_with fail
    try simp only [Exit.inBlock, Exit.then]
    refine bodyPost_ret (by simp [results, Tryd.results27, go_sem, z0, z1, z2, z3, z4]; try rfl) rfl ?_
    rw [HRD.out]
    exact DrP.bad rfl ((((((N0.out).set (Nat.le_refl _) _).set (Nat.le_refl _) _).set (Nat.le_refl _) _).set (Nat.le_refl _) _).set (Nat.le_refl _) _)
  rw [if_neg (by rw [hM]; decide)] at HRD
  have h3 := HM3.out hM
  clear hM HM3 HP
  have NR := Lib.hid (show Nx V0 (V0.alloc (.cells #[.slice A n c, .int .i64 3] 81)) from Nx.one _ _)
  have XR := Lib.hid (show Rdr (V0.alloc (.cells #[.slice A n c, .int .i64 3] 81)) V0.heap.size A n c 3 from bx_new V0 81 [.slice A n c, .int .i64 3])
  have HRB := Lib.hid (show w.heap.size < V0.heap.size from XS0.out.lt)
  have RN := Lib.hid (readNumbers_any V0.heap.size A bs n c HL.out h3 HHN.out HHC.out HHA.out _ ((HR.out.nx N0.out).nx NR.out) XR.out (fun ad e => by have := HAD.out ad e h3; have := HRB.out; omega))
  go_wp2_with fail
  generalize hV1 : V0.alloc (.cells #[.slice A n c, .int .i64 3] 81) = V1 at *
  obtain ⟨rb, hrb⟩ : ∃ rb, V0.heap.size = rb := ⟨_, rfl⟩
  have HV1 := Lib.hid (show V1.heap.size = rb + 1 by rw [← hV1, ← hrb]; simp)
  have XS1 := Lib.hid (XS0.out.nx NR.out)
  have NV1 := Lib.hid (N0.out.trans NR.out)
  rw [hrb] at HRB RN ⊢
  clear hV1 hrb N0 NR XS0 XR
  refine RN.out.mono ?_
  rintro r w2 ⟨m2, hd⟩
  have XS2 := Lib.hid (XS1.out.mb m2 (by have := HRB.out; omega))
  have NV2 := Lib.hid (show Nx w w2 from Mq.nx NV1.out (Mq.mb (B := w.heap.size) m2 NV1.out.size) (Nat.le_refl _) (by have := HRB.out; omega))
  have HS2 := Lib.hid (show rb < w2.heap.size by have := m2.size; have := HV1.out; omega)
  clear m2 RN XS1
  rcases hd with ⟨h13, rfl, hx'⟩ | ⟨h13, rfl⟩
  rotate_left
  · rw [if_pos h13] at HRD
    have XS3 := Lib.hid (XS2.out.nx (Nx.one w2 (.cells #[.int .i64 0, .int .i64 0, .int .i64 0, .int .i64 0] 23)))
    have NV3 := Lib.hid (NV2.out.alloc (.cells #[.int .i64 0, .int .i64 0, .int .i64 0, .int .i64 0] 23))
    have s0 := XS3.out.frozen 0
    have t0 := XS3.out.cell 0 rfl
    have s1 := XS3.out.frozen 1
    have t1 := XS3.out.cell 1 rfl
    have s2 := XS3.out.frozen 2
    have t2 := XS3.out.cell 2 rfl
    have s3 := XS3.out.frozen 3
    have t3 := XS3.out.cell 3 rfl
    have s4 := XS3.out.frozen 4
    have t4 := XS3.out.cell 4 rfl
    have z0 := (XS3.out.put 0 (.int .i64 0)).cell 0 rfl
    have z1 := ((XS3.out.put 0 (.int .i64 0)).put 1 (.int .i64 0)).cell 1 rfl
    have z2 := (((XS3.out.put 0 (.int .i64 0)).put 1 (.int .i64 0)).put 2 (.int .i64 0)).cell 2 rfl
    have z3 := ((((XS3.out.put 0 (.int .i64 0)).put 1 (.int .i64 0)).put 2 (.int .i64 0)).put 3 (.int .i64 0)).cell 3 rfl
    have z4 := (((((XS3.out.put 0 (.int .i64 0)).put 1 (.int .i64 0)).put 2 (.int .i64 0)).put 3 (.int .i64 0)).put 4 (.slice none 0 0)).cell 4 rfl
    go_wp2_with fail
    try simp only [Exit.inBlock, Exit.then]
    refine bodyPost_ret (by simp [results, Tryd.results27, go_sem, z0, z1, z2, z3, z4]; try rfl) rfl ?_
    rw [HRD.out]
    exact DrP.bad rfl ((((((NV3.out).set (Nat.le_refl _) _).set (Nat.le_refl _) _).set (Nat.le_refl _) _).set (Nat.le_refl _) _).set (Nat.le_refl _) _)
  have h13' : ¬ n < 13 := by omega
  rw [if_neg h13'] at HRD
  have HXR := Lib.hid hx'
  clear hx' h13'
  have hg11 := nb_in (bs.getD 11 0) (bs.getD (11 + 1) 0)
  have HCN := Lib.hid (show gn bs 11 = (cnt' bs : Int) by unfold cnt'; rw [Int.toNat_of_nonneg]; exact hg11.1)
  have HC6 := Lib.hid (show cnt' bs < 65536 by have := HCN.out; have := hg11.2; unfold gn at *; omega)
  rw [HCN.out]
  clear hg11
  obtain ⟨cn, hcn⟩ : ∃ cn, cnt' bs = cn := ⟨_, rfl⟩
  rw [hcn] at HRD HC6 ⊢
  clear hcn HCN
  have NS := Lib.hid (Nx.one w2 (.cells #[.int .i64 (gn bs 3), .int .i64 (gn bs 5), .int .i64 (gn bs 7), .int .i64 (gn bs 9)] 23))
  have XZ := Lib.hid (bx_new w2 23 [.int .i64 (gn bs 3), .int .i64 (gn bs 5), .int .i64 (gn bs 7), .int .i64 (gn bs 9)])
  have XS3 := Lib.hid (XS2.out.nx NS.out)
  have XR3 := Lib.hid (show Rdr (w2.alloc (.cells #[.int .i64 (gn bs 3), .int .i64 (gn bs 5), .int .i64 (gn bs 7), .int .i64 (gn bs 9)] 23)) rb A n c 13 from HXR.out.nx NS.out)
  have NV3 := Lib.hid (NV2.out.trans NS.out)
  have x1 := XR3.out.cell 1 rfl
  obtain ⟨i0, hi, hz0, hz1, hz2⟩ := info_parts infoIns
  have HB := Lib.hid (show rb < w2.heap.size + 1 by have := HS2.out; omega)
  have HEV := Lib.hid (HE.out.nx NV3.out)
  have hnm : n ≤ 9223372036854775807 := by have h1 := HHN.out; have h2 := HHC.out; unfold maxLen at h2; omega
  have hc6 := HC6.out
  go_wp2_with (first | (refine wpList_make_own _ rfl (.const (.int .i64 0)) (.tmp 42) 24 rfl (w2.heap.size + 1) 46 i0 (.agg #[.int .i64 0, .int .i64 0, .int .i64 0, .int .i64 0]) 4 Tryd.underlying24 hi hz0 hz1 .i64 .i64 (min (cn : Int) ((n : Int) - 13)) (min cn (n - 13)) rfl rfl (by omega) (by rw [hz2]; omega) (by unfold maxLen; omega) (by simp) ?_))
  intro w3 ho3 hg3
  have hs3 : w2.heap.size + 1 ≤ w3.heap.size := by have := hg3.size; simpa using this
  obtain ⟨B, hB⟩ : ∃ B, w2.heap.size + 1 = B := ⟨_, rfl⟩
  have HZB := Lib.hid (show w2.heap.size < B by omega)
  have B3 := Lib.hid (show Below B (w2.alloc (.cells #[.int .i64 (gn bs 3), .int .i64 (gn bs 5), .int .i64 (gn bs 7), .int .i64 (gn bs 9)] 23)) w3 from Below.grown (Below.refl _ _) hg3 (by simp; omega) (fun k hk => by cases hk))
  rw [hB] at HB ho3 hs3 ⊢
  have HO3 := Lib.hid (show OwC w3 B _ [] from ho3)
  have HWB := Lib.hid (show w.heap.size < B by have := HRB.out; have := HB.out; omega)
  have XS4 := Lib.hid (show Bx w3 w.heap.size 26 [.int .i64 0, .int .i64 0, .int .i64 0, .int .i64 0, .slice none 0 0] from (B3.out.block _ HWB.out).trans XS3.out)
  have XR4 := Lib.hid (show Rdr w3 rb A n c 13 from (B3.out.block _ HB.out).trans XR3.out)
  have XZ4 := Lib.hid (show Bx w3 w2.heap.size 23 [.int .i64 (gn bs 3), .int .i64 (gn bs 5), .int .i64 (gn bs 7), .int .i64 (gn bs 9)] from (B3.out.block _ HZB.out).trans XZ.out)
  have NV4 := Lib.hid (show Nx w w3 from Mq.nx (r := rb) NV3.out (Mq.below B3.out) (Nat.le_of_lt HWB.out) (Nat.le_of_lt HRB.out))
  have HS3 := Lib.hid hs3
  have HZR := Lib.hid (show w2.heap.size ≠ rb by have := HS2.out; omega)
  have HWR := Lib.hid (show w.heap.size ≠ rb by have := HRB.out; omega)
  have HWZ := Lib.hid (show w.heap.size ≠ w2.heap.size by have := HRB.out; have := HS2.out; omega)
  obtain ⟨zb, hzb⟩ : ∃ zb, w2.heap.size = zb := ⟨_, rfl⟩
  rw [hzb] at HZB HZR XZ4 HWZ
  try rw [hzb]
  have HRBB := Lib.hid (show rb < B from HB.out)
  clear ho3 hg3 hs3 B3 XS3 XR3 XZ NS hB hzb x1 NV3 HEV XS2 NV2 HS2 HXR NV1 HV1 HB
  go_wp2_with fail
  have W14 := (9, 45)
  clear W14
  go_loopw [9, 45] (fun v j wr => ∃ k : Nat, k ≤ cn ∧ j = .int .i64 k ∧ OwC wr B v (dst bs k).2 ∧ Rdr wr rb A n c (dst bs k).1 ∧ (∀ j, j < k → dfl bs j = 0) ∧ Mq rb B w3 wr) (fun _ j _ => cn - (intOf j).toNat)
  case atStart => exact ⟨0, Nat.zero_le _, rfl, HO3.out, XR4.out, fun j hj => absurd hj (by omega), Mq.refl _ _ _⟩
  case round =>
    obtain ⟨k, hk, rfl, ho, hx, hz, hm⟩ := hrel
    have HOk := Lib.hid ho
    have HXk := Lib.hid hx
    have HZk := Lib.hid hz
    have HMk := Lib.hid hm
    have NW := Lib.hid (show Nx w wr from Mq.nx NV4.out hm (Nat.le_of_lt HWB.out) (Nat.le_of_lt HRB.out))
    have HSB := Lib.hid (show B ≤ wr.heap.size from Nat.le_trans HS3.out hm.size)
    have XSk := Lib.hid (XS4.out.mq hm HWB.out HWR.out)
    have XZk := Lib.hid (XZ4.out.mq hm HZB.out HZR.out)
    have hle : (dst bs k).1 ≤ n := by rw [← HL.out]; exact dst_le (by rw [HL.out]; exact h13) hz
    have HLD := Lib.hid (dst_len bs k)
    clear ho hx hz hm
    have y1 := HXk.out.cell 1 rfl
    by_cases hlt : k < cn
    · have hki : (k : Int) < (cn : Int) := by omega
      have HST := Lib.hid (show dst bs (k + 1) = ((dst bs k).1 + 1 + need (frm (gb bs (dst bs k).1)), (dst bs k).2 ++ [insAt bs (dst bs k).1]) from rfl)
      have HDF := Lib.hid (show dfl bs k = wrg bs (dst bs k).1 from rfl)
      have HF0 := Lib.hid (show dfl bs k ≠ 0 → fst (dfl bs) cn = k from fun h => fst_at hlt HZk.out h)
      have HRA := Lib.hid (show fst (dfl bs) cn = k → RA = if dfl bs k = 8 then bad (dst bs k).1 8 else bad n 5 from fun h => by rw [HRD.out, h, if_pos hlt])
      obtain ⟨a, ha⟩ : ∃ a, (dst bs k).1 = a := ⟨_, rfl⟩
      rw [ha] at HXk HST HDF HRA hle y1
      have RI := Lib.hid (readIns_any rb A bs n c a HL.out hle HHN.out HHC.out HHA.out wr (HR.out.nx NW.out) HXk.out (fun ad e => by have := HAD.out ad e h3; have := HRB.out; omega) (HE.out.nx NW.out) (by have := HRB.out; have := HE.out; have := this.posW; omega))
      clear ha
      go_wp2_with fail
      refine RI.out.mono ?_
      rintro r w5 ⟨m5, hd⟩
      have M5 := Lib.hid (HMk.out.trans (Mq.mb m5 HSB.out))
      have O5 := Lib.hid (HOk.out.mb m5 HRBB.out)
      have XS5 := Lib.hid (XSk.out.mb m5 HWR.out)
      have S5 := Lib.hid (Nat.le_trans HSB.out m5.size)
      have NW5 := Lib.hid (show Nx w w5 from Mq.nx NV4.out M5.out (Nat.le_of_lt HWB.out) (Nat.le_of_lt HRB.out))
      clear m5 RI y1 XSk XZk HXk HOk NW
      rcases hd with ⟨hw0, rfl, hx'⟩ | ⟨hw0, x, hx', rfl⟩
      rotate_left
      · have HQ := Lib.hid (HRA.out (HF0.out (by rw [HDF.out]; exact hw0)))
        rw [HDF.out] at HQ
        have hcase : wrg bs a = 5 ∨ wrg bs a = 8 := by
          unfold wrg at hw0 ⊢
          split
          · exact .inl rfl
          · split
            · exact .inr rfl
            · split
              · exact .inl rfl
              · rename_i h1 h2 h3; rw [if_neg h1, if_neg h2, if_neg h3] at hw0; exact absurd rfl hw0
        have N6 := Lib.hid (NW5.out.alloc (.cells #[.int .i64 0, .int .i64 0, .int .i64 0, .int .i64 0] 46))
        have X6 := Lib.hid (XS5.out.nx (Nx.one w5 (.cells #[.int .i64 0, .int .i64 0, .int .i64 0, .int .i64 0] 46)))
        clear hx' hw0
        generalize wrg bs a = W at *
        have s0 := X6.out.frozen 0
        have t0 := X6.out.cell 0 rfl
        have s1 := X6.out.frozen 1
        have t1 := X6.out.cell 1 rfl
        have s2 := X6.out.frozen 2
        have t2 := X6.out.cell 2 rfl
        have s3 := X6.out.frozen 3
        have t3 := X6.out.cell 3 rfl
        have s4 := X6.out.frozen 4
        have t4 := X6.out.cell 4 rfl
        have z0 := (X6.out.put 0 (.int .i64 0)).cell 0 rfl
        have z1 := ((X6.out.put 0 (.int .i64 0)).put 1 (.int .i64 0)).cell 1 rfl
        have z2 := (((X6.out.put 0 (.int .i64 0)).put 1 (.int .i64 0)).put 2 (.int .i64 0)).cell 2 rfl
        have z3 := ((((X6.out.put 0 (.int .i64 0)).put 1 (.int .i64 0)).put 2 (.int .i64 0)).put 3 (.int .i64 0)).cell 3 rfl
        have z4 := (((((X6.out.put 0 (.int .i64 0)).put 1 (.int .i64 0)).put 2 (.int .i64 0)).put 3 (.int .i64 0)).put 4 (.slice none 0 0)).cell 4 rfl
        rcases hcase with rfl | rfl
        · rw [if_neg (by decide)] at HQ
          go_wp2_with fail
          try simp only [Exit.inBlock, Exit.then]
          refine bodyPost_ret (by simp [results, Tryd.results27, go_sem, z0, z1, z2, z3, z4]; try rfl) rfl ?_
          rw [HQ.out]
          exact DrP.bad rfl ((((((N6.out).set (Nat.le_refl _) _).set (Nat.le_refl _) _).set (Nat.le_refl _) _).set (Nat.le_refl _) _).set (Nat.le_refl _) _)
        · rw [if_pos rfl] at HQ
          go_wp2_with fail
          try simp only [Exit.inBlock, Exit.then]
          refine bodyPost_ret (by simp [results, Tryd.results27, go_sem, z0, z1, z2, z3, z4]; try rfl) rfl ?_
          rw [HQ.out]
          exact DrP.bad rfl ((((((N6.out).set (Nat.le_refl _) _).set (Nat.le_refl _) _).set (Nat.le_refl _) _).set (Nat.le_refl _) _).set (Nat.le_refl _) _)
      have HX5 := Lib.hid hx'
      have HZ5 := Lib.hid (show ∀ j, j < k + 1 → dfl bs j = 0 from fun j hj => by
        rcases Nat.lt_or_ge j k with h | h
        · exact HZk.out j h
        · obtain rfl : j = k := by omega
          rw [HDF.out]; exact hw0)
      clear hx' hw0 HRA HF0
      generalize insAt bs a = x at *
      obtain ⟨op, kk, nn, t⟩ := x
      have XI := Lib.hid (bx_new w5 46 [.int .i64 op, .int .i64 kk, .int .i64 nn, .int .i64 t])
      have l0 := XI.out.cell 0 rfl
      have l1 := XI.out.cell 1 rfl
      have l2 := XI.out.cell 2 rfl
      have l3 := XI.out.cell 3 rfl
      have O6 := Lib.hid (show (w5.alloc (.cells #[.int .i64 op, .int .i64 kk, .int .i64 nn, .int .i64 t] 46)).ownsRow B 46 4 _ k (ins (dst bs k).2) by
        have := World.ownsRow.alloc O5.out (.cells #[.int .i64 op, .int .i64 kk, .int .i64 nn, .int .i64 t] 46)
        rwa [HLD.out] at this)
      have M6 := Lib.hid (M5.out.trans (Mq.below (r := rb) (Below.alloc (Below.refl B _) S5.out (.cells #[.int .i64 op, .int .i64 kk, .int .i64 nn, .int .i64 t] 46))))
      have X6 := Lib.hid (show Rdr (w5.alloc (.cells #[.int .i64 op, .int .i64 kk, .int .i64 nn, .int .i64 t] 46)) rb A n c _ from HX5.out.nx (Nx.one _ _))
      have hki2 : k < 65536 := by omega
      go_wp2_with (first | (at_builtin; refine wpList_append_own _ rfl (.tmp 66) (.tmp 68) 24 rfl B 46 i0 (.agg #[.int .i64 0, .int .i64 0, .int .i64 0, .int .i64 0]) 4 32 Tryd.underlying24 hi hz0 hz1 hz2 rfl (by decide) _ k _ rfl (World.ownsRow.alloc O6.out _) ⟨w5.heap.size + 1, 0, none⟩ 1 1 [.int .i64 op, .int .i64 kk, .int .i64 nn, .int .i64 t] rfl rfl (fun j u hj => by rw [Addr.add_lit, Nat.zero_add]; exact (bx_newB (w5.alloc (.cells #[.int .i64 op, .int .i64 kk, .int .i64 nn, .int .i64 t] 46)) (w5.heap.size + 1) (by simp) 46 [.int .i64 op, .int .i64 kk, .int .i64 nn, .int .i64 t]).cell j hj) (fun u hu => by simp at hu; rcases hu with rfl | rfl | rfl | rfl <;> rfl) (by unfold maxLen; omega) (by omega) (by have := S5.out; simp; omega) ?_))
      intro v7 w7 ho7 hg7 _
      have B7 := Lib.hid (show Below B (w5.alloc (.cells #[.int .i64 op, .int .i64 kk, .int .i64 nn, .int .i64 t] 46)) w7 from grown_b (Below.alloc (Below.refl _ _) (by have := S5.out; simp; omega) _) hg7 (World.ownsRow.alloc O6.out _) (by have := S5.out; simp; omega))
      have O7 := Lib.hid (show OwC w7 B v7 ((dst bs k).2 ++ [⟨op, kk, nn, t⟩]) by
        unfold OwC
        rw [List.length_append, HLD.out, ins_snoc]
        exact ho7)
      have M7 := Lib.hid (M6.out.trans (Mq.below B7.out))
      have X7 := Lib.hid (show Rdr w7 rb A n c _ from (B7.out.block _ HRBB.out).trans X6.out)
      clear ho7 hg7 l0 l1 l2 l3 XI
      go_wp2_with fail
      go_roundw
      case rel => exact ⟨k + 1, by omega, by go_num, by rw [HST.out]; exact O7.out, by rw [HST.out]; exact X7.out, HZ5.out, M7.out⟩
      case measure => simp [intOf]; omega
    · have hki : ¬ (k : Int) < (cn : Int) := by omega
      have hkc : k = cn := by omega
      subst hkc
      have HFN := Lib.hid (show fst (dfl bs) k = k from fst_none HZk.out)
      have hkk : ¬ k < k := by omega
      rw [HFN.out, if_neg hkk] at HRD
      clear hkk
      obtain ⟨a, ha⟩ : ∃ a, (dst bs k).1 = a := ⟨_, rfl⟩
      rw [ha] at HRD hle HXk y1
      clear ha
      by_cases hlt2 : a < n
      · have hai : (a : Int) < (n : Int) := by omega
        rw [if_pos hlt2] at HRD
        have s0 := XSk.out.frozen 0
        have t0 := XSk.out.cell 0 rfl
        have s1 := XSk.out.frozen 1
        have t1 := XSk.out.cell 1 rfl
        have s2 := XSk.out.frozen 2
        have t2 := XSk.out.cell 2 rfl
        have s3 := XSk.out.frozen 3
        have t3 := XSk.out.cell 3 rfl
        have s4 := XSk.out.frozen 4
        have t4 := XSk.out.cell 4 rfl
        have z0 := (XSk.out.put 0 (.int .i64 0)).cell 0 rfl
        have z1 := ((XSk.out.put 0 (.int .i64 0)).put 1 (.int .i64 0)).cell 1 rfl
        have z2 := (((XSk.out.put 0 (.int .i64 0)).put 1 (.int .i64 0)).put 2 (.int .i64 0)).cell 2 rfl
        have z3 := ((((XSk.out.put 0 (.int .i64 0)).put 1 (.int .i64 0)).put 2 (.int .i64 0)).put 3 (.int .i64 0)).cell 3 rfl
        have z4 := (((((XSk.out.put 0 (.int .i64 0)).put 1 (.int .i64 0)).put 2 (.int .i64 0)).put 3 (.int .i64 0)).put 4 (.slice none 0 0)).cell 4 rfl
        have ne1 : w.heap.size ≠ rb := HWR.out
        have ne2 : rb ≠ w.heap.size := fun e => HWR.out e.symm
        go_wp2_with fail
        go_region
        go_wp2
        try simp only [Exit.inBlock, Exit.then]
        refine bodyPost_ret (by simp [results, Tryd.results27, go_sem, z0, z1, z2, z3, z4]; try rfl) rfl ?_
        rw [HRD.out]
        exact DrP.bad rfl (((((((NW.out).set (Nat.le_refl _) _).set (Nat.le_refl _) _).set (Nat.le_refl _) _).set (Nat.le_refl _) _).set (Nat.le_refl _) _).trans (Nx.refl _).drew)
      · have hai : ¬ (a : Int) < (n : Int) := by omega
        have han : a = n := by omega
        subst han
        rw [if_neg hlt2] at HRD
        have q0 := XZk.out.cell 0 rfl
        have q1 := XZk.out.cell 1 rfl
        have q2 := XZk.out.cell 2 rfl
        have q3 := XZk.out.cell 3 rfl
        obtain ⟨A', c', rfl, h1, h2, h4⟩ := HOk.out.rd
        rw [HLD.out]
        have HC := Lib.hid h1
        have HA4 := Lib.hid h4
        have HA3 := Lib.hid (fun ad e => (h2 ad e).2)
        clear h1 h2 h4 HOk
        have s0 := XSk.out.frozen 0
        have t0 := XSk.out.cell 0 rfl
        have s1 := XSk.out.frozen 1
        have t1 := XSk.out.cell 1 rfl
        have s2 := XSk.out.frozen 2
        have t2 := XSk.out.cell 2 rfl
        have s3 := XSk.out.frozen 3
        have t3 := XSk.out.cell 3 rfl
        have s4 := XSk.out.frozen 4
        have t4 := XSk.out.cell 4 rfl
        have z0 := (XSk.out.put 0 (.int .i64 (gn bs 3))).cell 0 rfl
        have z1 := ((XSk.out.put 0 (.int .i64 (gn bs 3))).put 1 (.int .i64 (gn bs 5))).cell 1 rfl
        have z2 := (((XSk.out.put 0 (.int .i64 (gn bs 3))).put 1 (.int .i64 (gn bs 5))).put 2 (.int .i64 (gn bs 7))).cell 2 rfl
        have z3 := ((((XSk.out.put 0 (.int .i64 (gn bs 3))).put 1 (.int .i64 (gn bs 5))).put 2 (.int .i64 (gn bs 7))).put 3 (.int .i64 (gn bs 9))).cell 3 rfl
        have z4 := (((((XSk.out.put 0 (.int .i64 (gn bs 3))).put 1 (.int .i64 (gn bs 5))).put 2 (.int .i64 (gn bs 7))).put 3 (.int .i64 (gn bs 9))).put 4 (.slice A' k c')).cell 4 rfl
        have ne1 : w.heap.size ≠ rb := HWR.out
        have ne2 : rb ≠ w.heap.size := fun e => HWR.out e.symm
        have ne3 : w.heap.size ≠ zb := HWZ.out
        have ne4 : zb ≠ w.heap.size := fun e => HWZ.out e.symm
        go_wp2_with fail
        go_region
        go_wp2
        try simp only [Exit.inBlock, Exit.then]
        refine bodyPost_ret (by simp [results, Tryd.results27, go_sem, z0, z1, z2, z3, z4]; try rfl) rfl ?_
        rw [HRD.out]
        have hfar : ∀ ad, A' = some ad → ad.block ≠ w.heap.size := fun ad e => by have := HA3.out ad e; have := HWB.out; omega
        exact ⟨A', c', by simp only [pgV, HLD.out], (((((HC.out.far hfar).far hfar).far hfar).far hfar).far hfar).nx (Nx.refl _).drew, HA4.out, (fun ad e => by have := HA3.out ad e; have := HWB.out; omega), (((((NW.out.set (Nat.le_refl _) _).set (Nat.le_refl _) _).set (Nat.le_refl _) _).set (Nat.le_refl _) _).set (Nat.le_refl _) _).trans (Nx.refl _).drew⟩
end Go.Proofs.YtdiamajkfbejhaaDoor
