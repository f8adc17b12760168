/- The walk of BytecodeLimit. Condition: the table of opcodes holds what the program's text lays. -/
import Derived.Test.YtdiamajkfbejhaaDoorITI
import Derived.Test.YtdiamajkfbejhaaDoorITG
import Derived.Test.YtdiamajkfbejhaaDoorIT8
import Derived.Deep.DeepCutAuto
namespace Go.Proofs.YtdiamajkfbejhaaDoor
open Go.RowKit

/-- n - 1 loads and an end. -/
def lmC (n : Nat) : List In4 := List.replicate (n - 1) ⟨0, 0, 0, 0⟩ ++ [⟨16, 0, 0, 0⟩]
theorem lmC_len {n : Nat} (h : 1 ≤ n) : (lmC n).length = n := by simp [lmC]; omega
theorem lmC_lo {n k : Nat} (h : k < n - 1) : (lmC n)[k]? = some ⟨0, 0, 0, 0⟩ := by
  unfold lmC; rw [List.getElem?_append_left (by simp; exact h)]; simp [h]
theorem lmC_hi {n : Nat} : (lmC n)[n - 1]? = some ⟨16, 0, 0, 0⟩ := by
  unfold lmC; rw [List.getElem?_append_right (by simp)]; simp
theorem lmC_d {n : Nat} (h : 1 ≤ n) : ∀ k, k ≤ n → dAt (lmC n) k = 0 := by
  intro k
  induction k with
  | zero => intro _; exact dAt_zero _
  | succ k ih =>
    intro hk
    rcases Nat.lt_or_ge k (n - 1) with h1 | h1
    · rw [dAt_succ (lmC_lo h1), ih (by omega)]; rfl
    · obtain rfl : k = n - 1 := by omega
      rw [dAt_succ lmC_hi, ih (by omega)]; rfl
theorem lmC_ok {n : Nat} (h : 1 ≤ n) (hb : n ≤ 65535) : Vd 1 0 0 0 (lmC n) := by
  have hl := lmC_len h
  refine ⟨by decide, by omega, by omega, fun j hj => ?_, fun j hj => ?_, fun j hj => ?_, ?_⟩
  · rcases Nat.lt_or_ge j (n - 1) with h1 | h1
    · rw [ckF_at (lmC_lo h1)]
      rw [chk_else (a' := 0) (b' := 0) (by decide)]
      decide
    · obtain rfl : j = n - 1 := by omega
      rw [ckF_at lmC_hi]
      rw [chk_else (a' := 0) (b' := 0) (by decide)]
      decide
  · rcases Nat.lt_or_ge j (n - 1) with h1 | h1
    · rw [dFl_at (lmC_lo h1), lmC_d h j (by omega)]; rfl
    · obtain rfl : j = n - 1 := by omega
      rw [dFl_at lmC_hi, lmC_d h _ (by omega)]; rfl
  · rcases Nat.lt_or_ge j (n - 1) with h1 | h1
    · rw [jpF_at (lmC_lo h1)]; rfl
    · obtain rfl : j = n - 1 := by omega
      rw [jpF_at lmC_hi]; rfl
  · rw [hl, opA_at lmC_hi]
theorem lmC_long {n : Nat} (h : 65535 < n) : (ckA 1 0 0 0 (lmC n)).2.2 = 7 := by
  have hl := lmC_len (n := n) (by omega)
  have hp : ptA 1 0 0 0 (lmC n) = (0, 7) := by
    unfold ptA
    rw [if_neg (by decide), hl, if_neg (by omega), if_pos h]
  unfold ckA
  rw [hp]
  rfl
theorem ins_zero (m : Nat) : ins (List.replicate m ⟨0, 0, 0, 0⟩) = List.replicate (m * 4) (.int .i64 0) := by
  induction m with
  | zero => rfl
  | succ m ih =>
    rw [List.replicate_succ, show (m + 1) * 4 = m * 4 + 1 + 1 + 1 + 1 by omega, List.replicate_succ, List.replicate_succ, List.replicate_succ, List.replicate_succ, ← ih]
    rfl
theorem zins (m : Nat) : (madeCells #[.int .i64 0, .int .i64 0, .int .i64 0, .int .i64 0] (m * 4)).toList = ins (List.replicate m ⟨0, 0, 0, 0⟩) := by
  rw [ins_zero]
  apply List.ext_getElem
  · simp [madeCells]
  · intro i h1 h2
    have hi : i % 4 = 0 ∨ i % 4 = 1 ∨ i % 4 = 2 ∨ i % 4 = 3 := by omega
    simp only [madeCells, Array.toList_map, List.getElem_map, Array.toList_range, List.getElem_range, List.getElem_replicate]
    show (#[Value.int .i64 0, .int .i64 0, .int .i64 0, .int .i64 0] : Array Value)[i % 4]! = _
    rcases hi with e | e | e | e <;> rw [e] <;> rfl
theorem ins_last (m : Nat) : (((((ins (List.replicate (m + 1) ⟨0, 0, 0, 0⟩)).set (m * 4) (.int .i64 16)).set (m * 4 + 1) (.int .i64 0)).set (m * 4 + 2) (.int .i64 0)).set (m * 4 + 3) (.int .i64 0)) = ins (lmC (m + 1)) := by
  have e1 : ins (List.replicate (m + 1) ⟨0, 0, 0, 0⟩) = ins (List.replicate m ⟨0, 0, 0, 0⟩) ++ [.int .i64 0, .int .i64 0, .int .i64 0, .int .i64 0] := by
    rw [List.replicate_succ', ins_snoc]
  have e2 : ins (lmC (m + 1)) = ins (List.replicate m ⟨0, 0, 0, 0⟩) ++ [.int .i64 16, .int .i64 0, .int .i64 0, .int .i64 0] := by
    unfold lmC; rw [Nat.add_sub_cancel, ins_snoc]
  have hl : (ins (List.replicate m (⟨0, 0, 0, 0⟩ : In4))).length = m * 4 := by rw [ins_len, List.length_replicate]
  rw [e1, e2]
  rw [List.set_append_right _ _ (by omega), List.set_append_right _ _ (by omega), List.set_append_right _ _ (by omega), List.set_append_right _ _ (by omega), hl]
  simp
set_option maxHeartbeats 6400000 in
set_option maxRecDepth 2000000 in
theorem law8_limit (more : Nat) (hmo : more < 256) (w : World) (he : Ev w) :
    Calls Tryd.prog 6 #[.int .u8 more] w fun r w' => r = .returned (.bool true) ∧ Nx w w' := by
  have HE := Lib.hid he
  clear he
  obtain ⟨i0, hi, hz0, hz1, hz2⟩ := info_parts infoIns
  have hm := Nat.mod_lt more (show 0 < 3 by decide)
  have hmu : more < 256 := hmo
  go_enter Tryd.func6, Tryd.ntmps6
  go_wp2_with (first | (refine wpList_make_full _ rfl (.tmp 15) (.tmp 15) 24 rfl w.heap.size 46 i0 (.agg #[.int .i64 0, .int .i64 0, .int .i64 0, .int .i64 0]) 4 Tryd.underlying24 hi hz0 hz1 .i64 .i64 (65534 + (more : Int) % 3) (65534 + (more : Int) % 3) (65534 + more % 3) rfl rfl (by omega) (by omega) (by rw [hz2]; omega) (by unfold maxLen; omega) (Nat.le_refl _) ?_))
  intro w1 ho1 hg1
  obtain ⟨m, hm1⟩ : ∃ m, 65534 + more % 3 = m + 1 := ⟨65533 + more % 3, by omega⟩
  have hmI : 65534 + (more : Int) % 3 = (m : Int) + 1 := by omega
  rw [hm1] at ho1 ⊢
  rw [hmI]
  have hmb : 65533 ≤ m ∧ m ≤ 65535 := by omega
  clear hm hmu hm1 hmI hmo
  rw [zins] at ho1
  have N1 := Lib.hid (show Nx w w1 from Below.grown (Below.refl _ _) hg1 (Nat.le_refl _) (fun k hk => by cases hk))
  have HGB := Lib.hid (World.ownsRow.lt ho1 w.heap.size rfl).2
  have NP := Lib.hid (N1.out.alloc (.cells #[.int .i64 1, .int .i64 0, .int .i64 0, .int .i64 0, .slice (some ⟨w.heap.size, 0, none⟩) (m + 1) (m + 1)] 26))
  have XP := Lib.hid (bx_new w1 26 (pgC 1 0 0 0 (some ⟨w.heap.size, 0, none⟩) (m + 1) (m + 1)))
  have HO2 := Lib.hid (show (w1.alloc (.cells #[.int .i64 1, .int .i64 0, .int .i64 0, .int .i64 0, .slice (some ⟨w.heap.size, 0, none⟩) (m + 1) (m + 1)] 26)).ownsRow w.heap.size 46 4 (.slice (some ⟨w.heap.size, 0, none⟩) (m + 1) (m + 1)) (m + 1) (ins (List.replicate (m + 1) ⟨0, 0, 0, 0⟩)) from World.ownsRow.alloc ho1 _)
  have hmi : (m : Int) < (m : Int) + 1 := by omega
  clear ho1 hg1
  go_upto_region 3 with fail
  generalize hW2 : w1.alloc (.cells #[.int .i64 1, .int .i64 0, .int .i64 0, .int .i64 0, .slice (some ⟨w.heap.size, 0, none⟩) (m + 1) (m + 1)] 26) = W2 at *
  have HPG := Lib.hid (show w.heap.size < w1.heap.size from HGB.out)
  obtain ⟨pb, hpb⟩ : ∃ pb, w1.heap.size = pb := ⟨_, rfl⟩
  rw [show (w1.alloc (.cells (pgC 1 0 0 0 (some ⟨w.heap.size, 0, none⟩) (m + 1) (m + 1)).toArray 26)) = W2 from hW2, hpb] at XP
  rw [hpb] at HPG ⊢
  clear hW2 hpb HGB N1
  generalize hg : w.heap.size = g at *
  have HG := Lib.hid hg
  clear hg
  have hzl : (ins (List.replicate (m + 1) (⟨0, 0, 0, 0⟩ : In4))) = List.replicate ((m + 1) * 4) (.int .i64 0) := ins_zero _
  have cj : ∀ j, j < (m + 1) * 4 → W2.cell? ⟨g, j, none⟩ = some (.int .i64 0) := fun j hj => by rw [World.ownsRow.cellAt HO2.out j hj, hzl, List.getElem?_replicate, if_pos hj]
  have x4 := XP.out.cell 4 rfl
  have c0 := cj (m * 4) (by omega)
  have c1 := cj (m * 4 + 1) (by omega)
  have c2 := cj (m * 4 + 2) (by omega)
  have c3 := cj (m * 4 + 3) (by omega)
  have f0 := World.ownsRow.frozenAt HO2.out (m * 4)
  have f1 := World.ownsRow.frozenAt HO2.out (m * 4 + 1)
  have f2 := World.ownsRow.frozenAt HO2.out (m * 4 + 2)
  have f3 := World.ownsRow.frozenAt HO2.out (m * 4 + 3)
  have HO3 := Lib.hid (World.ownsRow.stored (World.ownsRow.stored (World.ownsRow.stored (World.ownsRow.stored HO2.out (m * 4) (.int .i64 16)).1 (m * 4 + 1) (.int .i64 0)).1 (m * 4 + 2) (.int .i64 0)).1 (m * 4 + 3) (.int .i64 0)).1
  rw [ins_last] at HO3
  clear cj hzl
  go_upto_region 4 with fail
  clear c0 c1 c2 c3 f0 f1 f2 f3 x4
  have N3 := Lib.hid (show Nx w ((((W2.setCell ⟨g, m * 4, none⟩ (.int .i64 16)).setCell ⟨g, m * 4 + 1, none⟩ (.int .i64 0)).setCell ⟨g, m * 4 + 2, none⟩ (.int .i64 0)).setCell ⟨g, m * 4 + 3, none⟩ (.int .i64 0)) from (((NP.out.set (by rw [HG.out]; exact Nat.le_refl _) _).set (by rw [HG.out]; exact Nat.le_refl _) _).set (by rw [HG.out]; exact Nat.le_refl _) _).set (by rw [HG.out]; exact Nat.le_refl _) _)
  have X3 := Lib.hid (show Bx ((((W2.setCell ⟨g, m * 4, none⟩ (.int .i64 16)).setCell ⟨g, m * 4 + 1, none⟩ (.int .i64 0)).setCell ⟨g, m * 4 + 2, none⟩ (.int .i64 0)).setCell ⟨g, m * 4 + 3, none⟩ (.int .i64 0)) pb 26 (pgC 1 0 0 0 (some ⟨g, 0, none⟩) (m + 1) (m + 1)) from (((XP.out.far (by have := HPG.out; omega) _).far (by have := HPG.out; omega) _).far (by have := HPG.out; omega) _).far (by have := HPG.out; omega) _)
  have HLL := Lib.hid (lmC_len (n := m + 1) (by omega))
  have HC3 := Lib.hid (show RdC ((((W2.setCell ⟨g, m * 4, none⟩ (.int .i64 16)).setCell ⟨g, m * 4 + 1, none⟩ (.int .i64 0)).setCell ⟨g, m * 4 + 2, none⟩ (.int .i64 0)).setCell ⟨g, m * 4 + 3, none⟩ (.int .i64 0)) (some ⟨g, 0, none⟩) (lmC (m + 1)) by
    have ho : OwC ((((W2.setCell ⟨g, m * 4, none⟩ (.int .i64 16)).setCell ⟨g, m * 4 + 1, none⟩ (.int .i64 0)).setCell ⟨g, m * 4 + 2, none⟩ (.int .i64 0)).setCell ⟨g, m * 4 + 3, none⟩ (.int .i64 0)) g (.slice (some ⟨g, 0, none⟩) (m + 1) (m + 1)) (lmC (m + 1)) := by unfold OwC; rw [HLL.out]; exact HO3.out
    obtain ⟨A', c', e, h1, _⟩ := ho.rd
    simp only [Value.slice.injEq] at e
    rw [e.1]; exact h1)
  generalize ((((W2.setCell ⟨g, m * 4, none⟩ (.int .i64 16)).setCell ⟨g, m * 4 + 1, none⟩ (.int .i64 0)).setCell ⟨g, m * 4 + 2, none⟩ (.int .i64 0)).setCell ⟨g, m * 4 + 3, none⟩ (.int .i64 0)) = V at *
  clear XP NP HO2 HO3 HPG
  have x0 := X3.out.cell 0 rfl
  have x1 := X3.out.cell 1 rfl
  have x2 := X3.out.cell 2 rfl
  have x3 := X3.out.cell 3 rfl
  have x4 := X3.out.cell 4 rfl
  have hml : m + 1 ≤ maxLen := by unfold maxLen; omega
  have EN := Lib.hid (encode_any 1 0 0 0 (some ⟨g, 0, none⟩) (lmC (m + 1)) (m + 1) (m + 1) HLL.out hml V HC3.out (HE.out.nx N3.out))
  have SZ := Lib.hid (fun w' (h : Nx V w') => size_any 1 0 0 0 (some ⟨g, 0, none⟩) (lmC (m + 1)) (m + 1) (m + 1) HLL.out hml w' (HC3.out.nx h) (HE.out.nx (N3.out.trans h)))
  have AL := Lib.hid (fun w' (h : Nx V w') => alive_any w' (HE.out.nx (N3.out.trans h)))
  have HML := Lib.hid hml
  clear hml
  by_cases hbig : 65535 < m + 1
  · have hck := lmC_long hbig
    have hz7 : (ckA 1 0 0 0 (lmC (m + 1))).2.2 ≠ 0 := by rw [hck]; decide
    rw [encA_no hz7, hck] at EN
    have hsz : szA 1 0 0 0 (lmC (m + 1)) = 0 := by unfold szA; rw [if_neg hz7]
    rw [hsz] at SZ
    clear hck hz7 hsz
    have hbi : (65535 : Int) < (m : Int) + 1 := by omega
    unfold pgV at EN SZ
    go_wp2_with fail
    refine EN.out.mono ?_
    rintro r u1 ⟨A', c', rfl, _, _, _, n1⟩
    have M1 := Lib.hid n1
    clear n1 x0 x1 x2 x3 x4
    rw [show (([] : List UInt8), (7 : Int)).1.length = 0 from rfl]
    go_wp2_with fail
    refine (AL.out _ M1.out).mono ?_
    rintro r u2 ⟨rfl, n2⟩
    have M2 := Lib.hid (M1.out.trans n2)
    clear n2
    have x0 := (X3.out.nx M2.out).cell 0 rfl
    have x1 := (X3.out.nx M2.out).cell 1 rfl
    have x2 := (X3.out.nx M2.out).cell 2 rfl
    have x3 := (X3.out.nx M2.out).cell 3 rfl
    have x4 := (X3.out.nx M2.out).cell 4 rfl
    go_wp2_with fail
    refine (SZ.out _ M2.out).mono ?_
    rintro r u3 ⟨rfl, n3⟩
    have M3 := Lib.hid (M2.out.trans n3)
    clear n3
    go_wp2_with fail
    go_ret
    exact ⟨rfl, N3.out.trans M3.out⟩
  have hbi : ¬ (65535 : Int) < (m : Int) + 1 := by omega
  have HD := Lib.hid (lmC_ok (n := m + 1) (by omega) (by omega))
  have hz0' : (ckA 1 0 0 0 (lmC (m + 1))).2.2 = 0 := by rw [HD.out.ans]
  rw [encA_ok hz0'] at EN
  have hsz : szA 1 0 0 0 (lmC (m + 1)) = (enc 1 0 0 0 (lmC (m + 1))).length := by unfold szA; rw [if_pos hz0', enc_len]
  rw [hsz] at SZ
  clear hz0' hsz hbig
  have HDE := Lib.hid (decA_enc HD.out)
  have HBL := Lib.hid (show (enc 1 0 0 0 (lmC (m + 1))).length ≤ 400000 by have := body_le (lmC (m + 1)); rw [HLL.out] at this; rw [enc_len]; omega)
  unfold pgV at EN SZ
  go_wp2_with fail
  refine EN.out.mono ?_
  rintro r u1 ⟨A', c', rfl, hrd, hnl, hcap, n1⟩
  have M1 := Lib.hid n1
  have HRD := Lib.hid hrd
  have HNL := Lib.hid hnl
  clear n1 x0 x1 x2 x3 x4 hrd hnl EN
  simp only at HRD HNL hcap ⊢
  obtain ⟨bs, hbs⟩ : ∃ bs, enc 1 0 0 0 (lmC (m + 1)) = bs := ⟨_, rfl⟩
  rw [hbs] at HRD HNL hcap SZ HDE HBL ⊢
  clear hbs
  obtain ⟨L, hL⟩ : ∃ L, bs.length = L := ⟨_, rfl⟩
  have HL := Lib.hid hL
  rw [hL] at hcap SZ HDE HBL ⊢
  clear hL
  have hlb : L ≤ 400000 := HBL.out
  have DC := Lib.hid (decode_any A' bs L c' HL.out hcap.1 hcap.2 (fun e => (HNL.out e).2) u1 HRD.out (HE.out.nx (N3.out.trans M1.out)))
  rw [HDE.out] at DC
  clear HNL hcap
  go_wp2_with fail
  refine DC.out.mono ?_
  rintro r u2 ⟨A2, c2, rfl, hc2, _, _, n2⟩
  have M2 := Lib.hid (M1.out.trans n2)
  have HC2 := Lib.hid hc2
  clear n2 hc2 DC
  unfold pgV
  simp only at HC2 ⊢
  rw [HLL.out]
  have XQ := Lib.hid (bx_new u2 26 (pgC 1 0 0 0 A2 (m + 1) c2))
  have M3 := Lib.hid (M2.out.alloc (.cells #[.int .i64 1, .int .i64 0, .int .i64 0, .int .i64 0, .slice A2 (m + 1) c2] 26))
  have EQ := Lib.hid (fun w' (h : Nx (u2.alloc (.cells #[.int .i64 1, .int .i64 0, .int .i64 0, .int .i64 0, .slice A2 (m + 1) c2] 26)) w') => refEqual_any 1 0 0 0 (some ⟨g, 0, none⟩) (lmC (m + 1)) (m + 1) (m + 1) 1 0 0 0 A2 (lmC (m + 1)) (m + 1) c2 HLL.out HLL.out HML.out HML.out w' (HC3.out.nx (M3.out.trans h)) ((HC2.out.nx (Nx.one _ _)).nx h))
  rw [eqP_code, decide_eq_true (rfl : lmC (m + 1) = lmC (m + 1))] at EQ
  unfold pgV at EQ
  have hq : g = g := rfl
  clear hq
  go_upto_region 8 with fail
  generalize hU3 : u2.alloc (.cells #[.int .i64 1, .int .i64 0, .int .i64 0, .int .i64 0, .slice A2 (m + 1) c2] 26) = u3 at *
  rw [show u2.alloc (.cells (pgC 1 0 0 0 A2 (m + 1) c2).toArray 26) = u3 from hU3] at XQ
  obtain ⟨qb, hqb⟩ : ∃ qb, u2.heap.size = qb := ⟨_, rfl⟩
  rw [hqb] at XQ ⊢
  clear hU3 hqb M2 HC2
  go_wp2_with fail
  refine (AL.out _ M3.out).mono ?_
  rintro r u4 ⟨rfl, n4⟩
  have K4 := Lib.hid n4
  have M4 := Lib.hid (M3.out.trans n4)
  clear n4
  have x0 := (X3.out.nx M4.out).cell 0 rfl
  have x1 := (X3.out.nx M4.out).cell 1 rfl
  have x2 := (X3.out.nx M4.out).cell 2 rfl
  have x3 := (X3.out.nx M4.out).cell 3 rfl
  have x4 := (X3.out.nx M4.out).cell 4 rfl
  go_wp2_with fail
  refine (SZ.out _ M4.out).mono ?_
  rintro r u5 ⟨rfl, n5⟩
  have K5 := Lib.hid (K4.out.trans n5)
  have M5 := Lib.hid (M4.out.trans n5)
  clear n5 x0 x1 x2 x3 x4
  have x0 := (X3.out.nx M5.out).cell 0 rfl
  have x1 := (X3.out.nx M5.out).cell 1 rfl
  have x2 := (X3.out.nx M5.out).cell 2 rfl
  have x3 := (X3.out.nx M5.out).cell 3 rfl
  have x4 := (X3.out.nx M5.out).cell 4 rfl
  have y0 := (XQ.out.nx K5.out).cell 0 rfl
  have y1 := (XQ.out.nx K5.out).cell 1 rfl
  have y2 := (XQ.out.nx K5.out).cell 2 rfl
  have y3 := (XQ.out.nx K5.out).cell 3 rfl
  have y4 := (XQ.out.nx K5.out).cell 4 rfl
  have e1 : ((L : Int) == (L : Int)) = true := by simp
  go_wp2_with fail
  refine (EQ.out _ K5.out).mono ?_
  rintro r u6 ⟨rfl, n6⟩
  have M6 := Lib.hid (M5.out.trans n6)
  clear n6
  go_wp2_with fail
  go_ret
  exact ⟨rfl, N3.out.trans M6.out⟩
end Go.Proofs.YtdiamajkfbejhaaDoor
