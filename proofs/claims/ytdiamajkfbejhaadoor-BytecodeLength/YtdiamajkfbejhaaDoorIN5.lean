/- What Check and Valid of layer 7 return. Conditions: the table of opcodes holds what the program's text lays; a program that reads as a list. -/
import Derived.Test.YtdiamajkfbejhaaDoorIN3
import Derived.Test.YtdiamajkfbejhaaDoorIN4
import Derived.Test.YtdiamajkfbejhaaDoorIShelf
namespace Go.Proofs.YtdiamajkfbejhaaDoor
open Go.RowKit

theorem foldl_max (zs : List Nat) : ∀ a : Nat, (zs.map fun (z : Nat) => (z : Int)).foldl max (a : Int) = ((zs.foldl max a : Nat) : Int) := by
  induction zs with
  | nil => intro a; rfl
  | cons z l ih =>
    intro a
    rw [List.map_cons, List.foldl_cons, List.foldl_cons, ← ih]
    congr 1
    omega
theorem maxOf_nat (zs : List Nat) : Lib.maxOf (zs.map fun (z : Nat) => (z : Int)) = ((zs.foldl max 0 : Nat) : Int) := by
  cases zs with
  | nil => rfl
  | cons z l =>
    show ((z :: l).map fun (z : Nat) => (z : Int)).foldl max (z : Int) = _
    rw [foldl_max, List.foldl_cons, List.foldl_cons]
    congr 1
    congr 1
    omega
set_option maxHeartbeats 800000 in
theorem max_any (code : List In4) (g n c : Nat) (hn : code.length = n) (h0 : 0 < n) (hl : n ≤ 1000000) (w : World) (hd : RdI w (some ⟨g, 0, none⟩) (dps code)) :
    Calls Tryd.prog 32 #[.slice (some ⟨g, 0, none⟩) n c] w fun e w' => e = .returned (.int .i64 (mxD code)) ∧ w' = w := by
  have hl2 : ((dps code).map fun (z : Nat) => (z : Int)).length = n := by rw [List.length_map, dps_len, hn]
  refine (Tryd.slices_Max_int g 0 n c ((dps code).map fun (z : Nat) => (z : Int)) w h0 (by rw [hl2]; exact Nat.le_refl _) (by omega) ?_).mono ?_
  · intro j hj
    rw [hl2] at hj
    have hj' : j < code.length := by omega
    rw [Nat.zero_add, hd.lit (dps_at hj')]
    congr 2
    rw [List.getD_eq_getElem?_getD, List.getElem?_map, dps_at hj']
    rfl
  · rintro e w' ⟨rfl, rfl⟩
    refine ⟨?_, rfl⟩
    rw [List.take_of_length_le (by rw [hl2]; exact Nat.le_refl _), maxOf_nat]
    rfl

set_option maxHeartbeats 3200000 in
set_option maxRecDepth 100000 in
theorem check_any (i q m e : Int) (A : Option Addr) (code : List In4) (n c : Nat) (hn : code.length = n) (hl : n ≤ maxLen) (w : World) (hr : RdC w A code) (he : Ev w) :
    Calls Tryd.prog 19 #[pgV i q m e A n c] w fun r w' => r = .returned (.tuple #[.int .i64 (ckA i q m e code).1, .int .i64 (ckA i q m e code).2.1, .int .i64 (ckA i q m e code).2.2]) ∧ Nx w w' := by
  have HR := Lib.hid hr
  have HL := Lib.hid hn
  have HV := Lib.hid he
  have CP := Lib.hid (fun w' (h : Nx w w') => checkParts_any i q m e A code n c hn hl w' (hr.nx h) (he.nx h))
  have N0 := Lib.hid (Nx.one w (.cells #[.int .i64 i, .int .i64 q, .int .i64 m, .int .i64 e, .slice A n c] 26))
  have XP := Lib.hid (bx_new w 26 (pgC i q m e A n c))
  obtain ⟨P, hP⟩ : ∃ P, ptA i q m e code = P := ⟨_, rfl⟩
  obtain ⟨Z, hZ⟩ : ∃ Z, ckA i q m e code = Z := ⟨_, rfl⟩
  rw [hZ]
  rw [hP] at CP
  have HP := Lib.hid hP
  have HZ := Lib.hid hZ
  clear hr hn he hP hZ
  unfold pgV at CP ⊢
  go_enter Tryd.func19, Tryd.ntmps19
  have x0 := XP.out.cell 0 rfl
  have x1 := XP.out.cell 1 rfl
  have x2 := XP.out.cell 2 rfl
  have x3 := XP.out.cell 3 rfl
  have x4 := XP.out.cell 4 rfl
  go_wp2_with fail
  clear x0 x1 x2 x3 x4
  rw [show (w.alloc (.cells (pgC i q m e A n c).toArray 26)) = w.alloc (.cells #[.int .i64 i, .int .i64 q, .int .i64 m, .int .i64 e, .slice A n c] 26) from rfl] at XP
  generalize w.alloc (.cells #[.int .i64 i, .int .i64 q, .int .i64 m, .int .i64 e, .slice A n c] 26) = W at *
  generalize w.heap.size = b at *
  refine (CP.out W N0.out).mono ?_
  rintro r w1 ⟨rfl, q1⟩
  have K1 := Lib.hid q1
  clear q1 CP
  by_cases hp : P.2 = 0
  rotate_left
  · have t1 : (P.2 == 0) = false := by simpa using hp
    have t2 : (P.2 != 0) = true := by simpa using hp
    have HQ := Lib.hid (show Z = (0, P.1, P.2) by rw [← HZ.out, ← HP.out]; unfold ckA; rw [if_pos (by rw [HP.out]; exact hp)])
    obtain ⟨p1, p2⟩ := P
    simp only at t1 t2 HQ ⊢
    clear hp
    go_wp2
    go_ret3
    rw [HQ.out]
    exact ⟨rfl, N0.out.trans K1.out⟩
  obtain ⟨p1, p2⟩ := P
  simp only at hp
  subst hp
  obtain ⟨hc0, hpos, hsm, hck, hp1⟩ := ptA_ok (show (ptA i q m e code).2 = 0 by rw [HP.out])
  have HJ := Lib.hid (fun k x => ptA_jump (show (ptA i q m e code).2 = 0 by rw [HP.out]) (k := k) (x := x))
  have hsm' : n ≤ 65535 := by rw [← HL.out]; exact hsm
  have hpos' : 0 < n := by rw [← HL.out]; exact hpos
  have HZ1 := Lib.hid (show ckA i q m e code = if fst (dFl code) code.length < code.length then (0, fst (dFl code) code.length, dFl code (fst (dFl code) code.length))
    else if fst (jpF code) code.length < code.length then (0, fst (jpF code) code.length, 11)
    else if opA code (code.length - 1) ≠ 16 then (0, code.length, 5) else (mxD code, code.length, 0) by
      unfold ckA; rw [if_neg (by rw [HP.out]; exact fun h => h rfl)])
  clear hc0 hpos hsm hck hp1
  have x4 := (XP.out.nx K1.out).cell 4 rfl
  go_wp2_with fail
  refine (depths_any A code n c HL.out (by omega) w1 (HR.out.nx (N0.out.trans K1.out))).mono ?_
  rintro r w2 ⟨hn2, hd⟩
  have K2 := Lib.hid (K1.out.trans hn2)
  have HH := Lib.hid hn2
  clear hn2 x4
  rcases hd with ⟨hf, g, c2, rfl, hrd⟩ | ⟨k, hf, hk, rfl⟩
  rotate_left
  · have hne : dFl code k ≠ 0 := by
      rcases fst_cases (dFl code) code.length with ⟨h1, _⟩ | ⟨_, _, h3⟩
      · omega
      · rwa [hf] at h3
    have t1 : (dFl code k == 0) = false := by simpa using hne
    have t2 : (dFl code k != 0) = true := by simpa using hne
    have HQ := Lib.hid (show Z = (0, k, dFl code k) by rw [← HZ.out, HZ1.out, hf, if_pos hk])
    generalize dFl code k = R at *
    clear hne hf hk
    go_wp2
    go_ret3
    rw [HQ.out]
    exact ⟨rfl, N0.out.trans K2.out⟩
  have HZ2 := Lib.hid (show Z = if fst (jpF code) code.length < code.length then (0, fst (jpF code) code.length, 11)
    else if opA code (code.length - 1) ≠ 16 then (0, code.length, 5) else (mxD code, code.length, 0) by
      rw [← HZ.out, HZ1.out, if_neg (by omega)])
  have HD := Lib.hid hrd
  clear hf hrd
  rw [HL.out]
  have x4 := (XP.out.nx K2.out).cell 4 rfl
  go_wp2_with fail
  refine (failingJump_any A code n c g c2 HL.out (by omega) w2 (HR.out.nx (N0.out.trans K2.out)) HD.out HJ.out).mono ?_
  rintro r w3 ⟨rfl, q3⟩
  have K3 := Lib.hid (K2.out.trans q3)
  have HD3 := Lib.hid (HD.out.nx q3)
  clear q3 x4
  rw [HL.out] at HZ2 ⊢
  have hle := fst_le (jpF code) n
  obtain ⟨f, hf⟩ : ∃ f, fst (jpF code) n = f := ⟨_, rfl⟩
  rw [hf] at hle HZ2 ⊢
  clear hf
  by_cases hlt : f < n
  · have hlt' : (f : Int) < (n : Int) := by omega
    have HQ := Lib.hid (show Z = (0, f, 11) by rw [HZ2.out, if_pos hlt])
    go_wp2_with fail
    go_ret3
    rw [HQ.out]
    exact ⟨rfl, N0.out.trans K3.out⟩
  have hlt' : ¬ (f : Int) < (n : Int) := by omega
  have HZ3 := Lib.hid (show Z = if opA code (n - 1) ≠ 16 then (0, n, 5) else (mxD code, n, 0) by rw [HZ2.out, if_neg hlt])
  clear hlt hle
  have x4 := (XP.out.nx K3.out).cell 4 rfl
  obtain ⟨x, hx⟩ := code_at code (n - 1) (by rw [HL.out]; omega)
  have HO := Lib.hid (opA_at hx)
  obtain ⟨ad, rfl, c0, _, _, _⟩ := (HR.out.nx (N0.out.trans K3.out)).fr4 hx
  obtain ⟨N, rfl⟩ : ∃ N, n = N + 1 := ⟨n - 1, by omega⟩
  simp only [Nat.add_sub_cancel] at c0 HO HZ3
  have cN : ((N + 1 : Nat) : Int) = (N : Int) + 1 := by omega
  rw [cN]
  rw [cN] at hlt'
  by_cases ho : x.op = 16
  rotate_left
  · have t1 : (x.op == 16) = false := by simpa using ho
    have t2 : (x.op != 16) = true := by simpa using ho
    have HQ := Lib.hid (show Z = (0, N + 1, 5) by rw [HZ3.out, if_pos (by rw [HO.out]; exact ho)])
    clear ho
    go_wp2_with fail
    go_ret3
    rw [HQ.out]
    exact ⟨rfl, N0.out.trans K3.out⟩
  have HQ := Lib.hid (show Z = (mxD code, N + 1, 0) by rw [HZ3.out, if_neg (by rw [HO.out]; exact fun h => h ho)])
  rw [ho] at c0
  clear ho
  go_wp2_with fail
  refine (max_any code g (N + 1) c2 HL.out (by omega) (by omega) w3 HD3.out).mono ?_
  rintro r w4 ⟨rfl, rfl⟩
  go_wp2_with fail
  go_ret3
  rw [HQ.out]
  exact ⟨rfl, N0.out.trans K3.out⟩

set_option maxHeartbeats 800000 in
theorem valid_any (i q m e : Int) (A : Option Addr) (code : List In4) (n c : Nat) (hn : code.length = n) (hl : n ≤ maxLen) (w : World) (hr : RdC w A code) (he : Ev w) :
    Calls Tryd.prog 17 #[pgV i q m e A n c] w fun r w' => r = .returned (.bool (decide ((ckA i q m e code).2.2 = 0))) ∧ Nx w w' := by
  have N0 := Lib.hid (Nx.one w (.cells #[.int .i64 i, .int .i64 q, .int .i64 m, .int .i64 e, .slice A n c] 26))
  have XP := bx_new w 26 (pgC i q m e A n c)
  have CK := Lib.hid (check_any i q m e A code n c hn hl (w.alloc (.cells #[.int .i64 i, .int .i64 q, .int .i64 m, .int .i64 e, .slice A n c] 26)) (hr.nx N0.out) (he.nx N0.out))
  clear hn hr he
  obtain ⟨Z, hZ⟩ : ∃ Z, ckA i q m e code = Z := ⟨_, rfl⟩
  rw [hZ] at CK ⊢
  obtain ⟨a, b, R⟩ := Z
  obtain ⟨B, hB⟩ : ∃ B, decide (R = 0) = B := ⟨_, rfl⟩
  simp only at CK ⊢
  rw [hB]
  have HB := Lib.hid hB
  clear hB hZ
  unfold pgV at CK ⊢
  go_enter Tryd.func17, Tryd.ntmps17
  have x0 := XP.cell 0 rfl
  have x1 := XP.cell 1 rfl
  have x2 := XP.cell 2 rfl
  have x3 := XP.cell 3 rfl
  have x4 := XP.cell 4 rfl
  go_wp2_with fail
  refine (CK.out).mono ?_
  rintro r w1 ⟨rfl, q1⟩
  have K1 := Lib.hid (N0.out.trans q1)
  clear q1 x0 x1 x2 x3 x4 XP CK
  by_cases hz : R = 0
  · subst hz
    have HQ := Lib.hid (show B = true by rw [← HB.out]; rfl)
    go_wp2_with fail
    go_ret
    rw [HQ.out]
    exact ⟨rfl, K1.out⟩
  · have t1 : (R == 0) = false := by simpa using hz
    have HQ := Lib.hid (show B = false by rw [← HB.out]; exact decide_eq_false hz)
    clear hz
    go_wp2_with fail
    go_ret
    rw [HQ.out]
    exact ⟨rfl, K1.out⟩
end Go.Proofs.YtdiamajkfbejhaaDoor
