/- The walk of BytecodeCorruption. Condition: the table of opcodes holds what the program's text lays. -/
import Derived.Test.YtdiamajkfbejhaaDoorITI
import Derived.Test.YtdiamajkfbejhaaDoorITG
import Derived.Test.YtdiamajkfbejhaaDoorIT9
import Derived.Deep.DeepCutAuto
namespace Go.Proofs.YtdiamajkfbejhaaDoor
open Go.RowKit

theorem xor_byte (X Y : UInt8) : bits .xor .u8 (X.toNat : Int) (Y.toNat : Int) = ((X ^^^ Y).toNat : Int) := by
  have hx := X.toNat_lt
  have hy := Y.toNat_lt
  have h1 : (BitVec.ofInt 8 (X.toNat : Int)).toNat = X.toNat := by
    rw [BitVec.ofInt_natCast, BitVec.toNat_ofNat]; exact Nat.mod_eq_of_lt (by omega)
  have h2 : (BitVec.ofInt 8 (Y.toNat : Int)).toNat = Y.toNat := by
    rw [BitVec.ofInt_natCast, BitVec.toNat_ofNat]; exact Nat.mod_eq_of_lt (by omega)
  have h3 : X.toNat ^^^ Y.toNat < 2 ^ 8 := Nat.xor_lt_two_pow (by omega) (by omega)
  rw [UInt8.toNat_xor]
  show IntKind.u8.wrap ((BitVec.ofInt 8 (X.toNat : Int) ^^^ BitVec.ofInt 8 (Y.toNat : Int)).toNat : Int) = _
  rw [BitVec.toNat_xor, h1, h2, IntKind.wrap_u8]
  omega
theorem xor_ne {X Y : UInt8} (h : Y ≠ 0) : X ^^^ Y ≠ X := by
  intro e
  apply h
  have : X ^^^ (X ^^^ Y) = X ^^^ X := by rw [e]
  rw [← UInt8.xor_assoc, UInt8.xor_self, UInt8.zero_xor] at this
  exact this
theorem set_ne {bs : List UInt8} {k : Nat} {x : UInt8} (hx : bs[k]? ≠ some x) (hk : k < bs.length) : bs.set k x ≠ bs := by
  intro e
  apply hx
  rw [← e, List.getElem?_set_self hk]
set_option maxHeartbeats 12800000 in
set_option maxRecDepth 1000000 in
theorem law8_corrupt (i q m e : Int) (A : Option Addr) (code : List In4) (n c : Nat) (hn : code.length = n ∧ n ≤ maxLen) (ta tc : Nat) (hta : ta < 65536) (htc : tc < 65536) (Y : UInt8) (w : World) (hr : RdC w A code) (he : Ev w) :
    Calls Tryd.prog 7 #[pgV i q m e A n c, .agg #[.int .u16 ta, .int .u16 tc], .int .u8 (Y.toNat : Int)] w fun r w' => r = .returned (.bool true) ∧ Nx w w' := by
  have HE := Lib.hid he
  have HC := Lib.hid hr
  have HL := Lib.hid hn.1
  have HM := Lib.hid hn.2
  have hnm := hn.2
  unfold maxLen at hnm
  clear he hr hn
  have N0 := Lib.hid (show Nx w ((w.alloc (.cells #[.int .i64 i, .int .i64 q, .int .i64 m, .int .i64 e, .slice A n c] 26)).alloc (.cells #[.int .u16 ta, .int .u16 tc] 49)) from (Nx.one _ _).alloc _)
  have XP := Lib.hid (show Bx ((w.alloc (.cells #[.int .i64 i, .int .i64 q, .int .i64 m, .int .i64 e, .slice A n c] 26)).alloc (.cells #[.int .u16 ta, .int .u16 tc] 49)) w.heap.size 26 (pgC i q m e A n c) from (bx_new w 26 (pgC i q m e A n c)).nx (Nx.one _ _))
  have XT := Lib.hid (show Bx ((w.alloc (.cells #[.int .i64 i, .int .i64 q, .int .i64 m, .int .i64 e, .slice A n c] 26)).alloc (.cells #[.int .u16 ta, .int .u16 tc] 49)) (w.heap.size + 1) 49 [.int .u16 ta, .int .u16 tc] from bx_newB _ _ (by simp) 49 _)
  unfold pgV
  go_enter Tryd.func7, Tryd.ntmps7
  go_upto_region 1 with fail
  generalize hV0 : (w.alloc (.cells #[.int .i64 i, .int .i64 q, .int .i64 m, .int .i64 e, .slice A n c] 26)).alloc (.cells #[.int .u16 ta, .int .u16 tc] 49) = V0 at *
  clear hV0
  generalize w.heap.size + 1 = g1 at *
  generalize w.heap.size = g at *
  have t0 := XT.out.cell 0 rfl
  have t1 := XT.out.cell 1 rfl
  go_quiet (fail)
  have NQ := Lib.hid ((Nx.refl V0).drewN nq)
  have N1 := Lib.hid (N0.out.trans NQ.out)
  have XP1 := Lib.hid (XP.out.nx NQ.out)
  clear t0 t1 XT
  generalize V0.drewN nq = V1 at *
  clear NQ N0 XP
  have x0 := XP1.out.cell 0 rfl
  have x1 := XP1.out.cell 1 rfl
  have x2 := XP1.out.cell 2 rfl
  have x3 := XP1.out.cell 3 rfl
  have x4 := XP1.out.cell 4 rfl
  have EN := Lib.hid (encode_any i q m e A code n c HL.out HM.out V1 (HC.out.nx N1.out) (HE.out.nx N1.out))
  unfold pgV at EN
  go_wp2_with fail
  refine EN.out.mono ?_
  rintro r u1 ⟨A', c', rfl, hrd, hnl, hcap, k1⟩
  have U1 := Lib.hid (N1.out.trans k1)
  have XP2 := Lib.hid (XP1.out.nx k1)
  have HRD := Lib.hid hrd
  have HNL := Lib.hid hnl
  clear k1 hrd hnl EN x0 x1 x2 x3 x4 XP1 N1
  have x4 := XP2.out.cell 4 rfl
  by_cases hb : 300 < n
  · have hbi : (300 : Int) < (n : Int) := by omega
    clear hcap HRD HNL
    generalize (encA i q m e code).1.length = LL at *
    generalize (encA i q m e code).2 = zz at *
    go_wp2_with fail
    refine (alive_any _ (HE.out.nx U1.out)).mono ?_
    rintro r w1 ⟨rfl, q1⟩
    go_wp2_with fail
    go_ret
    exact ⟨rfl, U1.out.trans q1⟩
  have hbi : ¬ (300 : Int) < (n : Int) := by omega
  by_cases hz0 : (ckA i q m e code).2.2 = 0
  rotate_left
  · rw [encA_no hz0]
    have t0 : ((ckA i q m e code).2.2 == 0) = false := by simpa using hz0
    have t0' : ((ckA i q m e code).2.2 != 0) = true := by simpa using hz0
    clear hz0 hcap HRD HNL
    generalize (ckA i q m e code).2.2 = z3 at *
    simp only
    rw [show ([] : List UInt8).length = 0 from rfl]
    go_wp2_with fail
    refine (alive_any _ (HE.out.nx U1.out)).mono ?_
    rintro r w1 ⟨rfl, q1⟩
    go_wp2_with fail
    go_ret
    exact ⟨rfl, U1.out.trans q1⟩
  have HVD0 := Lib.hid (Vd.of hz0)
  rw [encA_ok hz0] at HRD HNL hcap ⊢
  clear hz0
  simp only at HRD HNL hcap ⊢
  have HCU0 := Lib.hid (fun k (h : k < (enc i q m e code).length) => decA_cut HVD0.out h)
  have HLE := Lib.hid (show 13 ≤ (enc i q m e code).length ∧ (enc i q m e code).length ≤ 400000 by
    have := body_le code
    have := HVD0.out.big
    rw [enc_len]; omega)
  obtain ⟨bs, hbs⟩ : ∃ bs, enc i q m e code = bs := ⟨_, rfl⟩
  have HBS := Lib.hid hbs
  rw [hbs] at HRD HNL hcap HCU0 HLE ⊢
  clear hbs
  obtain ⟨L, hL⟩ : ∃ L, bs.length = L := ⟨_, rfl⟩
  have HBL := Lib.hid hL
  rw [hL] at hcap HCU0 HLE ⊢
  clear hL
  have hle := HLE.out
  have hcap1 := hcap.1
  have HCM := Lib.hid hcap.2
  have hcap2 := hcap.2
  unfold maxLen at hcap2
  obtain ⟨ad, rfl⟩ := HRD.out.atA (by rw [HBL.out]; omega)
  clear hcap HNL
  have hLz : ¬ (L : Int) = 0 := by omega
  have hLz' : ((L : Int) == 0) = false := by rw [beq_eq_false_iff_ne]; omega
  by_cases hy : Y = 0
  · subst hy
    rw [show ((0 : UInt8).toNat : Int) = 0 from rfl]
    go_wp2_with fail
    refine (alive_any _ (HE.out.nx U1.out)).mono ?_
    rintro r w1 ⟨rfl, q1⟩
    go_wp2_with fail
    go_ret
    exact ⟨rfl, U1.out.trans q1⟩
  have HY := Lib.hid hy
  have hyn : Y.toNat ≠ 0 := fun e => hy (UInt8.toNat_inj.1 e)
  have hyl := Y.toNat_lt
  have hyi : ((Y.toNat : Int) == 0) = false := by rw [beq_eq_false_iff_ne]; omega
  have XOR := Lib.hid (fun X => xor_byte X Y)
  have XNE := Lib.hid (fun X => xor_ne (X := X) hy)
  clear hy
  generalize hYN : Y.toNat = yn at *
  have HYN := Lib.hid hYN
  clear hYN
  obtain ⟨i0, hi, hz0, hz1, hz2⟩ := info_parts info5
  go_wp2_with (first | (at_builtin; refine wpList_append_own _ rfl (.tmp 48) (.tmp 49) 28 rfl u1.heap.size 5 i0 (.int .u8 0) 1 1 Tryd.underlying28 hi hz0 hz1 hz2 rfl (by decide) _ _ _ rfl (World.ownsRow_lit (e := 5) (size := 1) u1 #[] 0 (Nat.le_refl _) (by unfold maxLen; omega) rfl) ad L c' (byt bs) rfl (by rw [byt_len, HBL.out, Nat.mul_one]) (fun j u hj => (Nx.one u1 _).cell (HRD.out.src j u hj)) (byt_one _) (by unfold maxLen; omega) (by omega) (by simp) ?_))
  intro v5 w5 ho5 hg5 _
  have ho5' : w5.ownsRow u1.heap.size 5 1 v5 L (byt bs) := by simpa using ho5
  have B5 := Lib.hid (show Nx u1 w5 from Below.grown (Below.alloc (Below.refl _ _) (Nat.le_refl _) _) hg5 (by simp) (fun k hk => by simp [Value.ownBlock] at hk; omega))
  obtain ⟨g5, c5, rfl, hgb, hgl⟩ := ho5'.form (by omega)
  have O5 := Lib.hid ho5'
  have HGB := Lib.hid hgb
  clear ho5 hg5 ho5' hgb hgl
  obtain ⟨k, hk⟩ : ∃ k, ta % L = k := ⟨_, rfl⟩
  have hkl : k < L := by rw [← hk]; exact Nat.mod_lt _ (by omega)
  have hkI : (ta : Int) % (L : Int) = (k : Int) := by rw [← hk]; exact (Int.natCast_emod _ _).symm
  have HKI := Lib.hid hkI
  clear hk
  obtain ⟨X, hX⟩ : ∃ X, bs[k]? = some X := ⟨_, List.getElem?_eq_getElem (by rw [HBL.out]; exact hkl)⟩
  have HX := Lib.hid hX
  have cx : w5.cell? ⟨g5, k, none⟩ = some (.int .u8 (X.toNat : Int)) := by rw [World.ownsRow.cellAt O5.out k (by omega)]; exact byt_at hX
  have fx := World.ownsRow.frozenAt O5.out k
  have hxl := X.toNat_lt
  have XX := Lib.hid (XOR.out X)
  have XN := Lib.hid (XNE.out X)
  clear hX XOR XNE
  have O6 := Lib.hid (show (w5.setCell ⟨g5, k, none⟩ (.int .u8 ((X ^^^ Y).toNat : Int))).ownsRow u1.heap.size 5 1 (.slice (some ⟨g5, 0, none⟩) L c5) L (byt (bs.set k (X ^^^ Y))) by
    have := (World.ownsRow.stored O5.out k (.int .u8 ((X ^^^ Y).toNat : Int))).1
    rwa [show (byt bs).set k (.int .u8 ((X ^^^ Y).toNat : Int)) = byt (bs.set k (X ^^^ Y)) by simp [byt, List.map_set]] at this)
  have B6 := Lib.hid (show Nx u1 (w5.setCell ⟨g5, k, none⟩ (.int .u8 ((X ^^^ Y).toNat : Int))) from B5.out.set HGB.out _)
  go_upto_region 7 with fail
  rw [XX.out]
  clear cx fx hkI hxl hyi hyl hyn XX
  generalize w5.setCell ⟨g5, k, none⟩ (.int .u8 ((X ^^^ Y).toNat : Int)) = w6 at *
  clear B5 O5
  have HCS := Lib.hid (show (bs.set k (X ^^^ Y)).length = L by rw [List.length_set, HBL.out])
  have HNE := Lib.hid (show bs.set k (X ^^^ Y) ≠ bs from set_ne (fun h => by rw [HX.out] at h; exact XN.out (Option.some.inj h).symm) (by rw [HBL.out]; exact hkl))
  obtain ⟨cs, hcs⟩ : ∃ cs, bs.set k (X ^^^ Y) = cs := ⟨_, rfl⟩
  rw [hcs] at O6 HCS HNE
  clear hcs HX XN
  have O6' := Lib.hid (show OwY w6 u1.heap.size (.slice (some ⟨g5, 0, none⟩) L c5) cs by unfold OwY; rw [HCS.out]; exact O6.out)
  obtain ⟨A6, c6, hv6, hr6, hn6, _, hl6⟩ := O6'.out.rd
  rw [HCS.out] at hv6 hl6
  simp only [Value.slice.injEq] at hv6
  obtain ⟨rfl, _, rfl⟩ := hv6
  have HCP := Lib.hid O6'.out.cap
  have HR6 := Lib.hid hr6
  have W6 := Lib.hid (U1.out.trans B6.out)
  have D6 := Lib.hid (decode_any (some ⟨g5, 0, none⟩) cs L c5 HCS.out hl6 HCP.out (fun e => by cases e) w6 HR6.out (HE.out.nx W6.out))
  clear hr6 hn6 hl6 O6 O6'
  obtain ⟨k2, hk2⟩ : ∃ k2, tc % L = k2 := ⟨_, rfl⟩
  have hk2l : k2 < L := by rw [← hk2]; exact Nat.mod_lt _ (by omega)
  have hk2I : (tc : Int) % (L : Int) = (k2 : Int) := by rw [← hk2]; exact (Int.natCast_emod _ _).symm
  have HCU := Lib.hid (HCU0.out k2 hk2l)
  have hk2c : (k2 : Int) ≤ (c' : Int) := by omega
  have hk2r : ((k2 : Int) == (k2 : Int)) = true := by simp
  clear hk2 HCU0
  go_wp2_with fail
  refine D6.out.mono ?_
  rintro r v7 ⟨A7, c7, rfl, hc7, _, _, k7⟩
  have V7 := Lib.hid (W6.out.trans k7)
  have KU7 := Lib.hid (B6.out.trans k7)
  have HR7 := Lib.hid (HR6.out.nx k7)
  have HC7 := Lib.hid hc7
  clear k7 hc7 D6 HR6 B6 W6
  by_cases hz : (decA cs).err = 0
  rotate_left
  · obtain ⟨a, x, hD, _⟩ := decA_bad hz
    rw [hD] at hz ⊢
    have hx : x ≠ 0 := hz
    have t1 : (x == 0) = false := by simpa using hx
    have t2 : (x != 0) = true := by simpa using hx
    clear hz hx hD
    unfold bad
    simp only
    unfold pgV
    rw [show ([] : List In4).length = 0 from rfl]
    have V8 := Lib.hid (V7.out.alloc (.cells #[.int .i64 0, .int .i64 0, .int .i64 0, .int .i64 0, .slice A7 0 c7] 26))
    have HKU := Lib.hid (KU7.out.alloc (.cells #[.int .i64 0, .int .i64 0, .int .i64 0, .int .i64 0, .slice A7 0 c7] 26))
    go_upto_region 8 with fail
    generalize hV2 : v7.alloc (.cells #[.int .i64 0, .int .i64 0, .int .i64 0, .int .i64 0, .slice A7 0 c7] 26) = v8 at *
    clear hV2 V7 KU7
    have M0 := Lib.hid (V8.out)
    have TK := Lib.hid (show RdY v8 (some ad) (bs.take k2) from fun k b hk => by
      rw [List.getElem?_take] at hk
      split at hk
      · exact (HRD.out.nx HKU.out) k b hk
      · cases hk)
    have D9 := Lib.hid (decode_any (some ad) (bs.take k2) k2 c' (by rw [List.length_take, HBL.out]; omega) (by omega) HCM.out (fun e => by cases e) v8 TK.out (HE.out.nx M0.out))
    rw [HCU.out] at D9
    clear TK
    by_cases hk3 : k2 < 3
    · have hk3i : (k2 : Int) < 3 := by omega
      rw [if_pos hk3] at D9
      go_wp2_with fail
      refine D9.out.mono ?_
      rintro r u9 ⟨A9, c9, rfl, _, _, _, k9⟩
      have U9 := Lib.hid (M0.out.trans k9)
      clear k9 D9
      unfold bad
      simp only
      unfold pgV
      rw [show ([] : List In4).length = 0 from rfl]
      have UA := Lib.hid (U9.out.alloc (.cells #[.int .i64 0, .int .i64 0, .int .i64 0, .int .i64 0, .slice A9 0 c9] 26))
      go_upto_region 14 with fail
      generalize hV2 : u9.alloc (.cells #[.int .i64 0, .int .i64 0, .int .i64 0, .int .i64 0, .slice A9 0 c9] 26) = uA at *
      clear hV2 U9
      go_wp2_with fail
      refine (alive_any _ (HE.out.nx UA.out)).mono ?_
      rintro r v3 ⟨rfl, m3⟩
      have M3 := Lib.hid (UA.out.trans m3)
      clear m3
      go_wp2_with fail
      go_ret
      exact ⟨rfl, M3.out⟩
    · have hk3i : ¬ (k2 : Int) < 3 := by omega
      have hk3d : decide ((k2 : Int) < 3) = false := decide_eq_false hk3i
      clear hk3i
      rw [if_neg hk3] at D9
      go_wp2_with fail
      refine D9.out.mono ?_
      rintro r u9 ⟨A9, c9, rfl, _, _, _, k9⟩
      have U9 := Lib.hid (M0.out.trans k9)
      clear k9 D9
      unfold bad
      simp only
      unfold pgV
      rw [show ([] : List In4).length = 0 from rfl]
      have UA := Lib.hid (U9.out.alloc (.cells #[.int .i64 0, .int .i64 0, .int .i64 0, .int .i64 0, .slice A9 0 c9] 26))
      go_upto_region 14 with fail
      generalize hV2 : u9.alloc (.cells #[.int .i64 0, .int .i64 0, .int .i64 0, .int .i64 0, .slice A9 0 c9] 26) = uA at *
      clear hV2 U9
      go_wp2_with fail
      refine (alive_any _ (HE.out.nx UA.out)).mono ?_
      rintro r v3 ⟨rfl, m3⟩
      have M3 := Lib.hid (UA.out.trans m3)
      clear m3
      go_wp2_with fail
      go_ret
      exact ⟨rfl, M3.out⟩
  obtain ⟨hvd, henc, hat⟩ := decA_inv hz
  have HVD := Lib.hid hvd
  have HEN := Lib.hid henc
  rcases hDD : decA cs with ⟨di, dq, dm, de, dc, da, dx⟩
  rw [hDD] at hz hat HVD HEN HC7
  try rw [hDD]
  simp only at hz hat HVD HEN HC7 ⊢
  subst hz
  clear hvd henc hDD hat
  obtain ⟨dl, hdl⟩ : ∃ dl, dc.length = dl := ⟨_, rfl⟩
  have HDL := Lib.hid hdl
  have hdb : dl ≤ 65535 := by rw [← hdl]; exact HVD.out.big
  have hdm : dl ≤ maxLen := by unfold maxLen; omega
  have HNP := Lib.hid (show eqP i q m e code di dq dm de dc = false from decide_eq_false (fun h => by
    obtain ⟨rfl, rfl, rfl, rfl, rfl⟩ := h
    exact HNE.out (by rw [← HEN.out, HBS.out])))
  rw [hdl]
  clear hdl
  unfold pgV
  have XQ := Lib.hid (bx_new v7 26 (pgC di dq dm de A7 dl c7))
  have V8 := Lib.hid (V7.out.alloc (.cells #[.int .i64 di, .int .i64 dq, .int .i64 dm, .int .i64 de, .slice A7 dl c7] 26))
  have K8 := Lib.hid (KU7.out.alloc (.cells #[.int .i64 di, .int .i64 dq, .int .i64 dm, .int .i64 de, .slice A7 dl c7] 26))
  have HC8 := Lib.hid (HC7.out.nx (Nx.one v7 (.cells #[.int .i64 di, .int .i64 dq, .int .i64 dm, .int .i64 de, .slice A7 dl c7] 26)))
  have HR8 := Lib.hid (HR7.out.nx (Nx.one v7 (.cells #[.int .i64 di, .int .i64 dq, .int .i64 dm, .int .i64 de, .slice A7 dl c7] 26)))
  go_upto_region 9 with fail
  generalize hV2 : v7.alloc (.cells #[.int .i64 di, .int .i64 dq, .int .i64 dm, .int .i64 de, .slice A7 dl c7] 26) = v8 at *
  rw [show v7.alloc (.cells (pgC di dq dm de A7 dl c7).toArray 26) = v8 from hV2] at XQ
  clear hV2 HC7 HR7 V7 KU7
  generalize v7.heap.size = qb at *
  have EC := Lib.hid (encode_any di dq dm de A7 dc dl c7 HDL.out hdm v8 HC8.out (HE.out.nx V8.out))
  rw [encA_ok (show (ckA di dq dm de dc).2.2 = 0 by rw [HVD.out.ans]), HEN.out] at EC
  unfold pgV at EC
  have x0 := XQ.out.cell 0 rfl
  have x1 := XQ.out.cell 1 rfl
  have x2 := XQ.out.cell 2 rfl
  have x3 := XQ.out.cell 3 rfl
  have x4 := XQ.out.cell 4 rfl
  clear x4
  have x4 := XQ.out.cell 4 rfl
  go_wp2_with fail
  refine EC.out.mono ?_
  rintro r v9 ⟨A9, c9, rfl, hrd9, hnl9, _, m9⟩
  simp only at hrd9 hnl9 ⊢
  rw [HCS.out]
  have K9 := Lib.hid (K8.out.trans m9)
  have V9 := Lib.hid (V8.out.trans m9)
  have XQ9 := Lib.hid (XQ.out.nx m9)
  have XP9 := Lib.hid (XP2.out.nx K9.out)
  have cv1 := conv_y' A9 cs L c9 v9 HCS.out hrd9 (fun e => (hnl9 e).2)
  have cv2 := conv_y' (some ⟨g5, 0, none⟩) cs L c5 v9 HCS.out (HR8.out.nx m9) (fun e => by cases e)
  have e1 : ((⟨cs.toArray⟩ : ByteArray).toList == (⟨cs.toArray⟩ : ByteArray).toList) = true := by simp
  have EQ := Lib.hid (equal_any i q m e A code n c di dq dm de A7 dc dl c7 HL.out HDL.out HM.out hdm v9 (HC.out.nx V9.out) (HC8.out.nx m9))
  rw [HNP.out] at EQ
  unfold pgV at EQ
  clear m9 hrd9 hnl9 x0 x1 x2 x3 x4 EC hdm
  have x0 := XP9.out.cell 0 rfl
  have x1 := XP9.out.cell 1 rfl
  have x2 := XP9.out.cell 2 rfl
  have x3 := XP9.out.cell 3 rfl
  have x4 := XP9.out.cell 4 rfl
  have y0 := XQ9.out.cell 0 rfl
  have y1 := XQ9.out.cell 1 rfl
  have y2 := XQ9.out.cell 2 rfl
  have y3 := XQ9.out.cell 3 rfl
  have y4 := XQ9.out.cell 4 rfl
  go_wp2_with fail
  refine EQ.out.mono ?_
  rintro r va ⟨rfl, ma⟩
  have VA := Lib.hid (V9.out.trans ma)
  have HKU := Lib.hid (K9.out.trans ma)
  clear ma x0 x1 x2 x3 x4 y0 y1 y2 y3 y4 cv1 cv2 e1 EQ
  have M0 := Lib.hid (VA.out)
  have TK := Lib.hid (show RdY va (some ad) (bs.take k2) from fun k b hk => by
    rw [List.getElem?_take] at hk
    split at hk
    · exact (HRD.out.nx HKU.out) k b hk
    · cases hk)
  have D9 := Lib.hid (decode_any (some ad) (bs.take k2) k2 c' (by rw [List.length_take, HBL.out]; omega) (by omega) HCM.out (fun e => by cases e) va TK.out (HE.out.nx M0.out))
  rw [HCU.out] at D9
  clear TK
  by_cases hk3 : k2 < 3
  · have hk3i : (k2 : Int) < 3 := by omega
    rw [if_pos hk3] at D9
    go_wp2_with fail
    refine D9.out.mono ?_
    rintro r u9 ⟨A9, c9, rfl, _, _, _, k9⟩
    have U9 := Lib.hid (M0.out.trans k9)
    clear k9 D9
    unfold bad
    simp only
    unfold pgV
    rw [show ([] : List In4).length = 0 from rfl]
    have UA := Lib.hid (U9.out.alloc (.cells #[.int .i64 0, .int .i64 0, .int .i64 0, .int .i64 0, .slice A9 0 c9] 26))
    go_upto_region 14 with fail
    generalize hV2 : u9.alloc (.cells #[.int .i64 0, .int .i64 0, .int .i64 0, .int .i64 0, .slice A9 0 c9] 26) = uA at *
    clear hV2 U9
    go_wp2_with fail
    refine (alive_any _ (HE.out.nx UA.out)).mono ?_
    rintro r v3 ⟨rfl, m3⟩
    have M3 := Lib.hid (UA.out.trans m3)
    clear m3
    go_wp2_with fail
    go_ret
    exact ⟨rfl, M3.out⟩
  · have hk3i : ¬ (k2 : Int) < 3 := by omega
    have hk3d : decide ((k2 : Int) < 3) = false := decide_eq_false hk3i
    clear hk3i
    rw [if_neg hk3] at D9
    go_wp2_with fail
    refine D9.out.mono ?_
    rintro r u9 ⟨A9, c9, rfl, _, _, _, k9⟩
    have U9 := Lib.hid (M0.out.trans k9)
    clear k9 D9
    unfold bad
    simp only
    unfold pgV
    rw [show ([] : List In4).length = 0 from rfl]
    have UA := Lib.hid (U9.out.alloc (.cells #[.int .i64 0, .int .i64 0, .int .i64 0, .int .i64 0, .slice A9 0 c9] 26))
    go_upto_region 14 with fail
    generalize hV2 : u9.alloc (.cells #[.int .i64 0, .int .i64 0, .int .i64 0, .int .i64 0, .slice A9 0 c9] 26) = uA at *
    clear hV2 U9
    go_wp2_with fail
    refine (alive_any _ (HE.out.nx UA.out)).mono ?_
    rintro r v3 ⟨rfl, m3⟩
    have M3 := Lib.hid (UA.out.trans m3)
    clear m3
    go_wp2_with fail
    go_ret
    exact ⟨rfl, M3.out⟩
end Go.Proofs.YtdiamajkfbejhaaDoor
