/- What Decode of the program returns. Conditions: bytes that read as a list; the table of opcodes holds what the program's text lays. -/
import Derived.Test.YtdiamajkfbejhaaDoorITF
import Derived.Test.YtdiamajkfbejhaaDoorIN5
namespace Go.Proofs.YtdiamajkfbejhaaDoor
open Go.RowKit

theorem rd_len (bs : List UInt8) : (rdA bs).code.length ≤ 65535 := by
  unfold rdA
  split
  · exact Nat.zero_le _
  · split
    · exact Nat.zero_le _
    · split
      · split <;> exact Nat.zero_le _
      · split
        · exact Nat.zero_le _
        · show (dst bs (cnt' bs)).2.length ≤ 65535
          rw [dst_len]
          have := nb_in (bs.getD 11 0) (bs.getD (11 + 1) 0)
          unfold cnt' gn
          omega
theorem decA_no {bs : List UInt8} (h : (rdA bs).err ≠ 0) : decA bs = rdA bs := by unfold decA; rw [if_pos h]
theorem decA_un {bs : List UInt8} (h : (rdA bs).err = 0) : decA bs = if (ckA (rdA bs).i (rdA bs).q (rdA bs).m (rdA bs).e (rdA bs).code).2.2 ≠ 0 then bad bs.length (ckA (rdA bs).i (rdA bs).q (rdA bs).m (rdA bs).e (rdA bs).code).2.2 else rdA bs := by
  unfold decA; rw [if_neg (by omega)]
theorem decA_at {bs : List UInt8} (h : (rdA bs).err = 0) : (rdA bs).at' = bs.length := (rd_inv h).2
set_option maxHeartbeats 6400000 in
set_option maxRecDepth 100000 in
theorem decode_any (A : Option Addr) (bs : List UInt8) (n c : Nat) (hn : bs.length = n) (hl : n ≤ c) (hc : c ≤ maxLen) (hA : A = none → c = 0) (w : World) (hr : RdY w A bs) (he : Ev w) :
    Calls Tryd.prog 15 #[.slice A n c] w (DrP (decA bs) w) := by
  have N0 := Lib.hid (Nx.one w (.cells #[.int .i64 0, .int .i64 0, .int .i64 0, .int .i64 0, .slice none 0 0] 26))
  have X0 := Lib.hid (bx_new w 26 [.int .i64 0, .int .i64 0, .int .i64 0, .int .i64 0, .slice none 0 0])
  have RD := Lib.hid (read_any A bs n c hn hl hc hA _ (hr.nx N0.out) (he.nx N0.out))
  have HE := Lib.hid he
  have HNO := Lib.hid (fun h => decA_no (bs := bs) h)
  have HUN := Lib.hid (fun h => decA_un (bs := bs) h)
  have HAT := Lib.hid (fun h => decA_at (bs := bs) h)
  have HBD := Lib.hid (fun h => rdA_bad (bs := bs) h)
  have HLN := Lib.hid (rd_len bs)
  have HNN := Lib.hid hn
  clear hr he hl hc hA hn
  generalize rdA bs = D at *
  generalize decA bs = R at *
  go_enter Tryd.func15, Tryd.ntmps15
  go_wp2_with fail
  generalize hV0 : w.alloc (.cells #[.int .i64 0, .int .i64 0, .int .i64 0, .int .i64 0, .slice none 0 0] 26) = V0 at *
  have HV0 := Lib.hid (show w.heap.size < V0.heap.size by rw [← hV0]; simp)
  clear hV0
  refine RD.out.mono ?_
  rintro r w1 ⟨A', c', rfl, hrc, hnil, hfr, k1⟩
  have N1 := Lib.hid (N0.out.trans k1)
  have X1 := Lib.hid (X0.out.nx k1)
  have HC := Lib.hid hrc
  have HNI := Lib.hid hnil
  have HFR := Lib.hid (fun ad e => Nat.lt_of_lt_of_le HV0.out (hfr ad e))
  clear k1 hrc RD hnil hfr
  unfold pgV
  by_cases hz : D.err = 0
  rotate_left
  · obtain ⟨a, x, hD, _⟩ := HBD.out hz
    have HQ := Lib.hid (HNO.out hz)
    subst hD
    have hx : x ≠ 0 := hz
    have t1 : (x == 0) = false := by simpa using hx
    have t2 : (x != 0) = true := by simpa using hx
    clear hz hx HNO HUN HAT HBD HC
    unfold bad at *
    simp only at HQ ⊢
    have XP := Lib.hid (X1.out.nx (Nx.one w1 (.cells #[.int .i64 0, .int .i64 0, .int .i64 0, .int .i64 0, .slice A' 0 c'] 26)))
    have NP := Lib.hid (N1.out.alloc (.cells #[.int .i64 0, .int .i64 0, .int .i64 0, .int .i64 0, .slice A' 0 c'] 26))
    have s0 := XP.out.frozen 0
    have t0 := XP.out.cell 0 rfl
    have s1 := XP.out.frozen 1
    have t1 := XP.out.cell 1 rfl
    have s2 := XP.out.frozen 2
    have t2 := XP.out.cell 2 rfl
    have s3 := XP.out.frozen 3
    have t3 := XP.out.cell 3 rfl
    have s4 := XP.out.frozen 4
    have t4 := XP.out.cell 4 rfl
    have z0 := (XP.out.put 0 (.int .i64 0)).cell 0 rfl
    have z1 := ((XP.out.put 0 (.int .i64 0)).put 1 (.int .i64 0)).cell 1 rfl
    have z2 := (((XP.out.put 0 (.int .i64 0)).put 1 (.int .i64 0)).put 2 (.int .i64 0)).cell 2 rfl
    have z3 := ((((XP.out.put 0 (.int .i64 0)).put 1 (.int .i64 0)).put 2 (.int .i64 0)).put 3 (.int .i64 0)).cell 3 rfl
    have z4 := (((((XP.out.put 0 (.int .i64 0)).put 1 (.int .i64 0)).put 2 (.int .i64 0)).put 3 (.int .i64 0)).put 4 (.slice none 0 0)).cell 4 rfl
    rw [show ([] : List In4).length = 0 from rfl]
    go_wp2_with fail
    try simp only [Exit.inBlock, Exit.then]
    refine bodyPost_ret (by simp [results, Tryd.results15, go_sem, z0, z1, z2, z3, z4]; try rfl) rfl ?_
    rw [HQ.out]
    exact DrP.bad rfl ((((((NP.out).set (Nat.le_refl _) _).set (Nat.le_refl _) _).set (Nat.le_refl _) _).set (Nat.le_refl _) _).set (Nat.le_refl _) _)
  have HU := Lib.hid (HUN.out hz)
  have HA := Lib.hid (HAT.out hz)
  clear HNO HUN HAT HBD
  obtain ⟨di, dq, dm, de, code, at', err⟩ := D
  simp only at hz HU HA HLN HC ⊢
  subst hz
  obtain ⟨L, hL⟩ : ∃ L, code.length = L := ⟨_, rfl⟩
  have HL := Lib.hid hL
  rw [hL] at HLN ⊢
  clear hL
  have NP := Lib.hid (Nx.one w1 (.cells #[.int .i64 di, .int .i64 dq, .int .i64 dm, .int .i64 de, .slice A' L c'] 26))
  have XB := Lib.hid (bx_new w1 26 [.int .i64 di, .int .i64 dq, .int .i64 dm, .int .i64 de, .slice A' L c'])
  have XR := Lib.hid (X1.out.nx NP.out)
  have CK := Lib.hid (check_any di dq dm de A' code L c' HL.out (by have := HLN.out; unfold maxLen; omega) _ (HC.out.nx NP.out) (HE.out.nx (N1.out.trans NP.out)))
  have HC2 := Lib.hid (HC.out.nx NP.out)
  have N2 := Lib.hid (N1.out.trans NP.out)
  have b0 := XB.out.cell 0 rfl
  have b1 := XB.out.cell 1 rfl
  have b2 := XB.out.cell 2 rfl
  have b3 := XB.out.cell 3 rfl
  have b4 := XB.out.cell 4 rfl
  obtain ⟨Z, hZ⟩ : ∃ Z, ckA di dq dm de code = Z := ⟨_, rfl⟩
  rw [hZ] at CK HU
  clear hZ
  obtain ⟨z1, z2, z3⟩ := Z
  simp only at CK HU
  unfold pgV at CK
  go_wp2_with fail
  generalize hV2 : w1.alloc (.cells #[.int .i64 di, .int .i64 dq, .int .i64 dm, .int .i64 de, .slice A' L c'] 26) = V2 at *
  have HPB := Lib.hid (show w.heap.size < w1.heap.size from X1.out.lt)
  obtain ⟨pb, hpb⟩ : ∃ pb, w1.heap.size = pb := ⟨_, rfl⟩
  rw [hpb] at XB HPB b0 b1 b2 b3 b4 ⊢
  clear hV2 hpb b0 b1 b2 b3 b4 NP X1 N1 HC
  refine CK.out.mono ?_
  rintro r w3 ⟨rfl, q3⟩
  have N3 := Lib.hid (N2.out.trans q3)
  have X3 := Lib.hid (XR.out.nx q3)
  have XB3 := Lib.hid (XB.out.nx q3)
  have HC3 := Lib.hid (HC2.out.nx q3)
  clear q3 CK XR XB HC2 N2
  by_cases hz : z3 = 0
  rotate_left
  · have t1 : (z3 == 0) = false := by simpa using hz
    have t2 : (z3 != 0) = true := by simpa using hz
    rw [if_pos hz, HNN.out] at HU
    clear hz
    have s0 := X3.out.frozen 0
    have t0 := X3.out.cell 0 rfl
    have s1 := X3.out.frozen 1
    have t1 := X3.out.cell 1 rfl
    have s2 := X3.out.frozen 2
    have t2 := X3.out.cell 2 rfl
    have s3 := X3.out.frozen 3
    have t3 := X3.out.cell 3 rfl
    have s4 := X3.out.frozen 4
    have t4 := X3.out.cell 4 rfl
    have z0 := (X3.out.put 0 (.int .i64 0)).cell 0 rfl
    have z1 := ((X3.out.put 0 (.int .i64 0)).put 1 (.int .i64 0)).cell 1 rfl
    have z2 := (((X3.out.put 0 (.int .i64 0)).put 1 (.int .i64 0)).put 2 (.int .i64 0)).cell 2 rfl
    have z3 := ((((X3.out.put 0 (.int .i64 0)).put 1 (.int .i64 0)).put 2 (.int .i64 0)).put 3 (.int .i64 0)).cell 3 rfl
    have z4 := (((((X3.out.put 0 (.int .i64 0)).put 1 (.int .i64 0)).put 2 (.int .i64 0)).put 3 (.int .i64 0)).put 4 (.slice none 0 0)).cell 4 rfl
    go_wp2_with fail
    try simp only [Exit.inBlock, Exit.then]
    refine bodyPost_ret (by simp [results, Tryd.results15, go_sem, z0, z1, z2, z3, z4]; try rfl) rfl ?_
    rw [HU.out]
    exact DrP.bad rfl ((((((N3.out).set (Nat.le_refl _) _).set (Nat.le_refl _) _).set (Nat.le_refl _) _).set (Nat.le_refl _) _).set (Nat.le_refl _) _)
  subst hz
  rw [if_neg (fun h => h rfl)] at HU
  have b0 := XB3.out.cell 0 rfl
  have b1 := XB3.out.cell 1 rfl
  have b2 := XB3.out.cell 2 rfl
  have b3 := XB3.out.cell 3 rfl
  have b4 := XB3.out.cell 4 rfl
  have s0 := X3.out.frozen 0
  have t0 := X3.out.cell 0 rfl
  have s1 := X3.out.frozen 1
  have t1 := X3.out.cell 1 rfl
  have s2 := X3.out.frozen 2
  have t2 := X3.out.cell 2 rfl
  have s3 := X3.out.frozen 3
  have t3 := X3.out.cell 3 rfl
  have s4 := X3.out.frozen 4
  have t4 := X3.out.cell 4 rfl
  have z0 := (X3.out.put 0 (.int .i64 di)).cell 0 rfl
  have z1 := ((X3.out.put 0 (.int .i64 di)).put 1 (.int .i64 dq)).cell 1 rfl
  have z2 := (((X3.out.put 0 (.int .i64 di)).put 1 (.int .i64 dq)).put 2 (.int .i64 dm)).cell 2 rfl
  have z3 := ((((X3.out.put 0 (.int .i64 di)).put 1 (.int .i64 dq)).put 2 (.int .i64 dm)).put 3 (.int .i64 de)).cell 3 rfl
  have z4 := (((((X3.out.put 0 (.int .i64 di)).put 1 (.int .i64 dq)).put 2 (.int .i64 dm)).put 3 (.int .i64 de)).put 4 (.slice A' L c')).cell 4 rfl
  go_wp2_with fail
  try simp only [Exit.inBlock, Exit.then]
  refine bodyPost_ret (by simp [results, Tryd.results15, go_sem, z0, z1, z2, z3, z4]; try rfl) rfl ?_
  rw [HU.out, HA.out, HNN.out]
  have hfar : ∀ ad, A' = some ad → ad.block ≠ w.heap.size := fun ad e => by have := HFR.out ad e; omega
  exact ⟨A', c', by simp only [pgV, HL.out], ((((HC3.out.far hfar).far hfar).far hfar).far hfar).far hfar, HNI.out, (fun ad e => Nat.le_of_lt (HFR.out ad e)), (((((N3.out).set (Nat.le_refl _) _).set (Nat.le_refl _) _).set (Nat.le_refl _) _).set (Nat.le_refl _) _).set (Nat.le_refl _) _⟩
end Go.Proofs.YtdiamajkfbejhaaDoor
