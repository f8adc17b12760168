/- What the reference's Check of layer 7 returns. Condition: a program that reads as a list. -/
import Derived.Test.YtdiamajkfbejhaaDoorIN6
import Derived.Test.YtdiamajkfbejhaaDoorIN5
import Derived.Deep.RegionHeld3
namespace Go.Proofs.YtdiamajkfbejhaaDoor
open Go.RowKit

theorem RdI.addr {w : World} {ad : Addr} {xs : List Nat} (h : RdI w (some ad) xs) {k v : Nat} (hk : xs[k]? = some v) : w.cell? (ad.add k) = some (.int .i64 v) := by
  obtain ⟨ad', e, hc⟩ := h k v hk
  obtain rfl := Option.some.inj e
  exact hc
theorem max_step (l : List Nat) (k v : Nat) (h : l[k]? = some v) : (l.take (k + 1)).foldl max 0 = max ((l.take k).foldl max 0) v := by
  rw [List.take_add_one, h, List.foldl_append]; rfl
set_option maxHeartbeats 6400000 in
set_option maxRecDepth 100000 in
theorem refCheck7_any (i q m e : Int) (A : Option Addr) (code : List In4) (n c : Nat) (hn : code.length = n) (hl : n ≤ maxLen) (w : World) (hr : RdC w A code) :
    Calls Tryd.prog 23 #[pgV i q m e A n c] w fun r w' => r = .returned (.tuple #[.int .i64 (ckA i q m e code).1, .int .i64 (ckA i q m e code).2.1, .int .i64 (ckA i q m e code).2.2]) ∧ Nx w w' := by
  unfold maxLen at hl
  have HR := Lib.hid hr
  have HL := Lib.hid hn
  have CS := Lib.hid (refCheckSize_any i q m e)
  have OC := Lib.hid (fun o k n N (a many : Int) => refCheck_any i q m e o k n N a many)
  have N0 := Lib.hid (Nx.one w (.cells #[.int .i64 i, .int .i64 q, .int .i64 m, .int .i64 e, .slice A n c] 26))
  have XP := Lib.hid (bx_new w 26 (pgC i q m e A n c))
  obtain ⟨P, hP⟩ : ∃ P, ptA i q m e code = P := ⟨_, rfl⟩
  obtain ⟨Z, hZ⟩ : ∃ Z, ckA i q m e code = Z := ⟨_, rfl⟩
  rw [hZ]
  have HP := Lib.hid hP
  have HZ := Lib.hid hZ
  clear hr hn hP hZ
  have HZe := Lib.hid (show P.2 ≠ 0 → Z = (0, P.1, P.2) from fun hp => by rw [← HZ.out, ← HP.out]; unfold ckA; rw [if_pos (by rw [HP.out]; exact hp)])
  unfold pgV
  go_enter Tryd.func23, Tryd.ntmps23
  have x0 := XP.out.cell 0 rfl
  have x1 := XP.out.cell 1 rfl
  have x2 := XP.out.cell 2 rfl
  have x3 := XP.out.cell 3 rfl
  go_wp2_with fail
  clear x0 x1 x2 x3
  rw [show (w.alloc (.cells (pgC i q m e A n c).toArray 26)) = w.alloc (.cells #[.int .i64 i, .int .i64 q, .int .i64 m, .int .i64 e, .slice A n c] 26) from rfl] at XP
  generalize w.alloc (.cells #[.int .i64 i, .int .i64 q, .int .i64 m, .int .i64 e, .slice A n c] 26) = W at *
  generalize w.heap.size = b at *
  refine (CS.out W).mono ?_
  rintro r w1 ⟨rfl, q1⟩
  have K1 := Lib.hid q1
  clear q1
  rcases csz_in i q m e with h0 | h0
  rotate_left
  · have HQ := Lib.hid (show Z = (0, 0, 3) by
      have hp : P = (0, 3) := by rw [← HP.out]; unfold ptA; rw [if_pos (by omega), h0]
      rw [HZe.out (by rw [hp]; decide), hp])
    rw [h0]
    clear h0
    go_wp2
    go_ret3
    rw [HQ.out]
    exact ⟨rfl, N0.out.trans K1.out⟩
  have H0 := Lib.hid h0
  rw [h0]
  clear h0
  have x4 := (XP.out.nx K1.out).cell 4 rfl
  by_cases hz : n = 0
  · have HQ := Lib.hid (show Z = (0, 0, 4) by
      have hp : P = (0, 4) := by rw [← HP.out]; unfold ptA; rw [if_neg (by rw [H0.out]; decide), if_pos (by rw [HL.out]; exact hz)]
      rw [HZe.out (by rw [hp]; decide), hp])
    subst hz
    go_wp2
    go_ret3
    rw [HQ.out]
    exact ⟨rfl, N0.out.trans K1.out⟩
  have t0 : ((n : Int) == 0) = false := by rw [beq_eq_false_iff_ne]; omega
  by_cases hb : 65535 < n
  · have HQ := Lib.hid (show Z = (0, 0, 7) by
      have hp : P = (0, 7) := by rw [← HP.out]; unfold ptA; rw [if_neg (by rw [H0.out]; decide), if_neg (by rw [HL.out]; exact hz), if_pos (by rw [HL.out]; exact hb)]
      rw [HZe.out (by rw [hp]; decide), hp])
    have hbi : (65535 : Int) < (n : Int) := by omega
    go_wp2
    go_ret3
    rw [HQ.out]
    exact ⟨rfl, N0.out.trans K1.out⟩
  have hbi : ¬ (65535 : Int) < (n : Int) := by omega
  have HQ := Lib.hid (show P = (fst (ckF i q m e code) code.length, if fst (ckF i q m e code) code.length < code.length then ckF i q m e code (fst (ckF i q m e code) code.length) else 0) by
    rw [← HP.out]; unfold ptA; rw [if_neg (by rw [H0.out]; decide), if_neg (by rw [HL.out]; exact hz), if_neg (by rw [HL.out]; exact hb)])
  have HZ0 := Lib.hid hz
  go_wp2
  clear t0 hbi x4 hz
  go_loopw [5, 7] (fun ev j wr => ev = .int .i64 0 ∧ ∃ k : Nat, k ≤ n ∧ j = .int .i64 k ∧ (∀ j, j < k → ckF i q m e code j = 0) ∧ Nx W wr) (fun _ j _ => n - (intOf j).toNat)
  case atStart => exact ⟨rfl, 0, Nat.zero_le _, rfl, fun j hj => absurd hj (by omega), K1.out⟩
  case round =>
    obtain ⟨rfl, k, hk, rfl, hz, hnx⟩ := hrel
    have HZ := Lib.hid hz
    have HN := Lib.hid hnx
    clear hz hnx
    by_cases hlt : k < n
    · obtain ⟨x, hx⟩ := code_at code k (by rw [HL.out]; exact hlt)
      have hki : (k : Int) < (n : Int) := by omega
      obtain ⟨ad, rfl, c0, c1, c2, c3⟩ := (HR.out.nx (N0.out.trans HN.out)).fr4 hx
      have HX := Lib.hid hx
      clear hx
      have HC := Lib.hid (show ckF i q m e code k = chk i q m e x.op x.k x.n x.t k n by rw [ckF_at HX.out, HL.out])
      obtain ⟨op, kk, nn, t⟩ := x
      simp only at c0 c1 c2 c3 HC
      have x0 := (XP.out.nx HN.out).cell 0 rfl
      have x1 := (XP.out.nx HN.out).cell 1 rfl
      have x2 := (XP.out.nx HN.out).cell 2 rfl
      have x3 := (XP.out.nx HN.out).cell 3 rfl
      have x4 := (XP.out.nx HN.out).cell 4 rfl
      have OC1 := Lib.hid (OC.out op kk nn t k n)
      generalize chk i q m e op kk nn t k n = R at *
      go_wp2_with fail
      have HS := Lib.hid (show ∀ w', Nx wr w' → w'.cell? ⟨b, 0, none⟩ = some (.int .i64 i) ∧ w'.cell? ⟨b, 1, none⟩ = some (.int .i64 q) ∧ w'.cell? ⟨b, 2, none⟩ = some (.int .i64 m) ∧ w'.cell? ⟨b, 3, none⟩ = some (.int .i64 e) ∧ w'.cell? ⟨b, 4, none⟩ = some (.slice (some ad) n c) ∧ w'.cell? (ad.add (k * 4)) = some (.int .i64 op) ∧ w'.cell? ⟨(ad.add (k * 4)).block, (ad.add (k * 4)).off + 1, none⟩ = some (.int .i64 kk) ∧ w'.cell? ⟨(ad.add (k * 4)).block, (ad.add (k * 4)).off + 2, none⟩ = some (.int .i64 nn) ∧ w'.cell? ⟨(ad.add (k * 4)).block, (ad.add (k * 4)).off + 3, none⟩ = some (.int .i64 t) from fun w' h => ⟨h.cell x0, h.cell x1, h.cell x2, h.cell x3, h.cell x4, h.cell c0, h.cell c1, h.cell c2, h.cell c3⟩)
      go_region_held3 (fun w' => w'.cell? ⟨b, 0, none⟩ = some (.int .i64 i) ∧ w'.cell? ⟨b, 1, none⟩ = some (.int .i64 q) ∧ w'.cell? ⟨b, 2, none⟩ = some (.int .i64 m) ∧ w'.cell? ⟨b, 3, none⟩ = some (.int .i64 e) ∧ w'.cell? ⟨b, 4, none⟩ = some (.slice (some ad) n c) ∧ w'.cell? (ad.add (k * 4)) = some (.int .i64 op) ∧ w'.cell? ⟨(ad.add (k * 4)).block, (ad.add (k * 4)).off + 1, none⟩ = some (.int .i64 kk) ∧ w'.cell? ⟨(ad.add (k * 4)).block, (ad.add (k * 4)).off + 2, none⟩ = some (.int .i64 nn) ∧ w'.cell? ⟨(ad.add (k * 4)).block, (ad.add (k * 4)).off + 3, none⟩ = some (.int .i64 t)) (first | exact HS.out _ (by repeat (first | exact Nx.refl _ | assumption | refine Nx.drew ?_ | refine Nx.drewN ?_ _ | refine Nx.alloc ?_ _ | refine Nx.trans ?_ (by assumption))))
        (first
          | (go_at_call 39; refine (OC1.out _).mono ?_; rintro e5 w5 ⟨rfl, h5⟩))
      clear HS c0 c1 c2 c3 x0 x1 x2 x3 x4
      by_cases hz : R = 0
      · subst hz
        have HZ2 := Lib.hid (show ∀ j, j < k + 1 → ckF i q m e code j = 0 from fun j hj => by
          rcases Nat.lt_or_ge j k with h | h
          · exact HZ.out j h
          · obtain rfl : j = k := by omega
            exact HC.out)
        go_wp2_with fail
        go_roundw
        case rel => exact ⟨rfl, k + 1, by omega, by go_num, HZ2.out, HN.out.trans (by repeat (first | exact Nx.refl _ | assumption | refine Nx.drew ?_ | refine Nx.drewN ?_ _ | refine Nx.alloc ?_ _ | refine Nx.trans ?_ (by assumption)))⟩
        case measure => simp [intOf]; omega
      · have t1 : (R == 0) = false := by simpa using hz
        have t2 : (R != 0) = true := by simpa using hz
        have HF := Lib.hid (show fst (ckF i q m e code) code.length = k from fst_at (by rw [HL.out]; exact hlt) HZ.out (by rw [HC.out]; exact hz))
        have HQ2 := Lib.hid (show Z = (0, k, R) by
          have hp : P = (k, R) := by rw [HQ.out, HF.out, HL.out, if_pos hlt, HC.out]
          rw [HZe.out (by rw [hp]; exact hz), hp])
        clear hz
        go_wp2_with fail
        go_ret3
        rw [HQ2.out]
        exact ⟨rfl, N0.out.trans (HN.out.trans (by repeat (first | exact Nx.refl _ | assumption | refine Nx.drew ?_ | refine Nx.drewN ?_ _ | refine Nx.alloc ?_ _ | refine Nx.trans ?_ (by assumption))))⟩
    · obtain rfl : n = k := by omega
      have hsm : n ≤ 65535 := by omega
      have hpos : 0 < n := by have := HZ0.out; omega
      have hki : ¬ (n : Int) < (n : Int) := by omega
      have HP0 := Lib.hid (show (ptA i q m e code).2 = 0 by rw [HP.out, HQ.out, fst_none (by rw [HL.out]; exact HZ.out), if_neg (by omega)])
      have HZ1 := Lib.hid (show ckA i q m e code = if fst (dFl code) code.length < code.length then (0, fst (dFl code) code.length, dFl code (fst (dFl code) code.length))
        else if fst (jpF code) code.length < code.length then (0, fst (jpF code) code.length, 11)
        else if opA code (code.length - 1) ≠ 16 then (0, code.length, 5) else (mxD code, code.length, 0) by
          unfold ckA; rw [if_neg (by rw [HP0.out]; exact fun h => h rfl)])
      have HJ := Lib.hid (fun k x => ptA_jump HP0.out (k := k) (x := x))
      have x4 := (XP.out.nx HN.out).cell 4 rfl
      clear hki HZ HQ HZe hlt hb hk
      go_wp2_with fail
      refine (refDepths_any A code n c HL.out (by omega) wr (HR.out.nx (N0.out.trans HN.out))).mono ?_
      rintro r w2 ⟨hn2, hd⟩
      have K2 := Lib.hid (HN.out.trans hn2)
      clear hn2 x4
      rcases hd with ⟨hf, A', c2, rfl, hrd⟩ | ⟨k, hf, hk, rfl⟩
      rotate_left
      · have hne : dFl code k ≠ 0 := by
          rcases fst_cases (dFl code) code.length with ⟨h1, _⟩ | ⟨_, _, h3⟩
          · omega
          · rwa [hf] at h3
        have t1 : (dFl code k == 0) = false := by simpa using hne
        have t2 : (dFl code k != 0) = true := by simpa using hne
        have HQ := Lib.hid (show Z = (0, k, dFl code k) by rw [← HZ.out, HZ1.out, hf, if_pos hk])
        generalize dFl code k = R at *
        clear hne hf hk
        go_wp2
        go_ret3
        rw [HQ.out]
        exact ⟨rfl, N0.out.trans K2.out⟩
      have HZ2 := Lib.hid (show Z = if fst (jpF code) code.length < code.length then (0, fst (jpF code) code.length, 11)
        else if opA code (code.length - 1) ≠ 16 then (0, code.length, 5) else (mxD code, code.length, 0) by
          rw [← HZ.out, HZ1.out, if_neg (by omega)])
      obtain ⟨adl, rfl, _⟩ := hrd 0 _ (dps_at (by rw [HL.out]; exact hpos))
      have HD := Lib.hid hrd
      clear hf hrd
      rw [HL.out]
      rw [HL.out] at HZ2
      go_wp2_with fail
      go_loopw [11] (fun j wr2 => ∃ k : Nat, k ≤ n ∧ j = .int .i64 k ∧ (∀ j, j < k → jpF code j = 0) ∧ Nx w2 wr2) (fun j _ => n - (intOf j).toNat)
      case atStart => exact ⟨0, Nat.zero_le _, rfl, fun j hj => absurd hj (by omega), Nx.refl _⟩
      case round =>
        obtain ⟨k, hk, rfl, hz, hnx⟩ := hrel
        have HZ := Lib.hid hz
        have HM := Lib.hid (K2.out.trans hnx)
        have HM2 := Lib.hid hnx
        clear hz hnx
        have x4 := (XP.out.nx HM.out).cell 4 rfl
        by_cases hlt : k < n
        · obtain ⟨x, hx⟩ := code_at code k (by rw [HL.out]; exact hlt)
          have hki : (k : Int) < (n : Int) := by omega
          have HT := Lib.hid (HJ.out k x hx)
          have HPj := Lib.hid (jpF_at hx)
          obtain ⟨ad, rfl, c0, _, _, c3⟩ := (HR.out.nx (N0.out.trans HM.out)).fr4 hx
          have d0 := (HD.out.nx HM2.out).addr (dps_at (show k < code.length by rw [HL.out]; exact hlt))
          obtain ⟨op, kk, nn, t⟩ := x
          simp only at c0 c3
          clear hx
          by_cases ho : op = 15
          · subst ho
            obtain ⟨h0, h1⟩ := HT.out rfl
            obtain ⟨T, rfl⟩ : ∃ T : Nat, t = T := ⟨t.toNat, by simp at h0; omega⟩
            simp only at h0 h1
            have hTn : T < n := by have := HL.out; omega
            have hTi : (T : Int) < (n : Int) := by omega
            have d1 := (HD.out.nx HM2.out).addr (dps_at (show T < code.length by rw [HL.out]; exact hTn))
            have HP2 := Lib.hid (show jpF code k = if dAt code k ≠ 0 ∨ dAt code T ≠ 0 then 11 else 0 by rw [HPj.out]; simp)
            clear h0 h1 HT HPj
            by_cases hz0 : dAt code k = 0
            · rw [hz0] at d0
              by_cases hz1 : dAt code T = 0
              · rw [hz1] at d1
                have HZ3 := Lib.hid (show ∀ j, j < k + 1 → jpF code j = 0 from fun j hj => by
                  rcases Nat.lt_or_ge j k with h | h
                  · exact HZ.out j h
                  · obtain rfl : j = k := by omega
                    rw [HP2.out, if_neg (by omega)])
                clear hz0 hz1
                go_wp2_with fail
                go_roundw
                case rel => exact ⟨k + 1, by omega, by go_num, HZ3.out, HM2.out⟩
                case measure => simp [intOf]; omega
              · have t0 : ((dAt code T : Int) == 0) = false := by rw [beq_eq_false_iff_ne]; omega
                have t1 : ((dAt code T : Int) != 0) = true := by rw [bne_iff_ne]; omega
                have HF := Lib.hid (show fst (jpF code) n = k from fst_at hlt HZ.out (by rw [HP2.out, if_pos (Or.inr hz1)]; decide))
                have HQ := Lib.hid (show Z = (0, k, 11) by rw [HZ2.out, HF.out, if_pos hlt])
                clear hz0 hz1
                go_wp2_with fail
                go_ret3
                rw [HQ.out]
                exact ⟨rfl, N0.out.trans HM.out⟩
            · have t0 : ((dAt code k : Int) == 0) = false := by rw [beq_eq_false_iff_ne]; omega
              have t1 : ((dAt code k : Int) != 0) = true := by rw [bne_iff_ne]; omega
              have HF := Lib.hid (show fst (jpF code) n = k from fst_at hlt HZ.out (by rw [HP2.out, if_pos (Or.inl hz0)]; decide))
              have HQ := Lib.hid (show Z = (0, k, 11) by rw [HZ2.out, HF.out, if_pos hlt])
              clear hz0
              go_wp2_with fail
              go_ret3
              rw [HQ.out]
              exact ⟨rfl, N0.out.trans HM.out⟩
          · have t1 : (op == 15) = false := by simpa using ho
            have HZ3 := Lib.hid (show ∀ j, j < k + 1 → jpF code j = 0 from fun j hj => by
              rcases Nat.lt_or_ge j k with h | h
              · exact HZ.out j h
              · obtain rfl : j = k := by omega
                rw [HPj.out, if_neg (fun h => ho h.1)])
            clear HT HPj ho
            go_wp2_with fail
            go_roundw
            case rel => exact ⟨k + 1, by omega, by go_num, HZ3.out, HM2.out⟩
            case measure => simp [intOf]; omega
        · obtain rfl : n = k := by omega
          have hki : ¬ (n : Int) < (n : Int) := by omega
          have HZ3 := Lib.hid (show Z = if opA code (n - 1) ≠ 16 then (0, n, 5) else (mxD code, n, 0) by rw [HZ2.out, fst_none HZ.out, if_neg (by omega)])
          obtain ⟨x, hx⟩ := code_at code (n - 1) (by rw [HL.out]; omega)
          have HO := Lib.hid (opA_at hx)
          obtain ⟨ad, rfl, c0, _, _, _⟩ := (HR.out.nx (N0.out.trans HM.out)).fr4 hx
          obtain ⟨N, rfl⟩ : ∃ N, n = N + 1 := ⟨n - 1, by omega⟩
          simp only [Nat.add_sub_cancel] at c0 HO HZ3
          have cN : ((N + 1 : Nat) : Int) = (N : Int) + 1 := by omega
          rw [cN]
          clear hki
          have hki : ¬ (N : Int) + 1 < (N : Int) + 1 := by omega
          by_cases ho : x.op = 16
          rotate_left
          · have t1 : (x.op == 16) = false := by simpa using ho
            have t2 : (x.op != 16) = true := by simpa using ho
            have HQ := Lib.hid (show Z = (0, N + 1, 5) by rw [HZ3.out, if_pos (by rw [HO.out]; exact ho)])
            clear ho
            go_wp2_with fail
            go_ret3
            rw [HQ.out]
            exact ⟨rfl, N0.out.trans HM.out⟩
          have HQ := Lib.hid (show Z = (mxD code, N + 1, 0) by rw [HZ3.out, if_neg (by rw [HO.out]; exact fun h => h ho)])
          rw [ho] at c0
          clear ho
          go_wp2_with fail
          clear c0 hki x4 hk hlt
          go_loopw [12, 13] (fun mv j wr3 => ∃ k M : Nat, k ≤ N + 1 ∧ j = .int .i64 k ∧ mv = .int .i64 M ∧ M = ((dps code).take k).foldl max 0 ∧ wr3 = wr) (fun _ j _ => N + 1 - (intOf j).toNat)
          case atStart => exact ⟨0, 0, Nat.zero_le _, rfl, rfl, rfl, rfl⟩
          case round =>
            obtain ⟨k, M, hk, rfl, rfl, hM, rfl⟩ := hrel
            have HMM := Lib.hid hM
            clear hM
            by_cases hlt : k < N + 1
            · have hki : (k : Int) < (N : Int) + 1 := by omega
              have hdp := dps_at (show k < code.length by rw [HL.out]; exact hlt)
              have d0 := (HD.out.nx HM2.out).addr hdp
              have HS := Lib.hid (max_step (dps code) k _ hdp)
              clear hdp
              rw [← HMM.out] at HS
              obtain ⟨D, hD⟩ : ∃ D, dAt code k = D := ⟨_, rfl⟩
              rw [hD] at d0 HS
              clear hD
              by_cases hgt : M < D
              · have HS2 := Lib.hid (show D = ((dps code).take (k + 1)).foldl max 0 by rw [HS.out]; omega)
                have hgi : (M : Int) < (D : Int) := by omega
                go_wp2_with fail
                go_roundw
                case rel => exact ⟨k + 1, D, by omega, by go_num, rfl, HS2.out, trivial⟩
                case measure => simp [intOf]; omega
              · have HS2 := Lib.hid (show M = ((dps code).take (k + 1)).foldl max 0 by rw [HS.out]; omega)
                have hgi : ¬ (M : Int) < (D : Int) := by omega
                go_wp2_with fail
                go_roundw
                case rel => exact ⟨k + 1, M, by omega, by go_num, rfl, HS2.out, trivial⟩
                case measure => simp [intOf]; omega
            · obtain rfl : k = N + 1 := by omega
              have hki : ¬ (N : Int) + 1 < (N : Int) + 1 := by omega
              have HS2 := Lib.hid (show M = mxD code by rw [HMM.out, List.take_of_length_le (by rw [dps_len, HL.out]; exact Nat.le_refl _)]; rfl)
              rw [cN]
              go_wp2_with fail
              go_ret3
              rw [HQ.out, ← HS2.out]
              exact ⟨rfl, N0.out.trans HM.out⟩
end Go.Proofs.YtdiamajkfbejhaaDoor
