/- The walk of VerifyDepthsMatchReference. Conditions: the table of opcodes holds what the program's text lays; a program that reads as a list. -/
import Derived.Test.YtdpccnpaajhliaaDoorINJ
import Derived.Test.YtdpccnpaajhliaaDoorIN8
namespace Go.Proofs.YtdpccnpaajhliaaDoor
open Go.RowKit

theorem RdZ.addr {w : World} {ad : Addr} {xs : List Int} (h : RdZ w (some ad) xs) {k : Nat} {v : Int} (hk : xs[k]? = some v) : w.cell? (ad.add k) = some (.int .i64 v) := by
  obtain ⟨ad', e, hc⟩ := h k v hk
  obtain rfl := Option.some.inj e
  exact hc
theorem RdI.addr8 {w : World} {ad : Addr} {xs : List Nat} (h : RdI w (some ad) xs) {k v : Nat} (hk : xs[k]? = some v) : w.cell? (ad.add k) = some (.int .i64 v) := by
  obtain ⟨ad', e, hc⟩ := h k v hk
  obtain rfl := Option.some.inj e
  exact hc
/-- What Depths answers: the depths, a number, an error. -/
def dq (code : List In4) : List Nat × Nat × Int := if fst (dFl code) code.length = code.length then (dps code, code.length, 0) else ([], fst (dFl code) code.length, dFl code (fst (dFl code) code.length))
theorem dp_uni {code : List In4} {w w' : World} {e : Ending} (h : DpPost code w e w') : Nx w w' ∧ ∃ A c, e = .returned (.tuple #[.slice A (dq code).1.length c, .int .i64 (dq code).2.1, .int .i64 (dq code).2.2]) ∧ RdI w' A (dq code).1 := by
  obtain ⟨hn, h⟩ := h
  refine ⟨hn, ?_⟩
  rcases h with ⟨hf, g, c, rfl, hr⟩ | ⟨k, hf, hk, rfl⟩
  · have e : dq code = (dps code, code.length, 0) := by unfold dq; rw [if_pos hf]
    rw [e]
    exact ⟨some ⟨g, 0, none⟩, c, by rw [dps_len], hr⟩
  · have e : dq code = ([], k, dFl code k) := by unfold dq; rw [hf, if_neg (by omega)]
    rw [e]
    exact ⟨none, 0, rfl, fun k b hb => by simp at hb⟩
theorem dr_uni {code : List In4} {w w' : World} {e : Ending} (h : DrPost code w e w') : Nx w w' ∧ ∃ A c, e = .returned (.tuple #[.slice A (dq code).1.length c, .int .i64 (dq code).2.1, .int .i64 (dq code).2.2]) ∧ RdI w' A (dq code).1 := by
  obtain ⟨hn, h⟩ := h
  refine ⟨hn, ?_⟩
  rcases h with ⟨hf, A, c, rfl, hr⟩ | ⟨k, hf, hk, rfl⟩
  · have e : dq code = (dps code, code.length, 0) := by unfold dq; rw [if_pos hf]
    rw [e]
    exact ⟨A, c, by rw [dps_len], hr⟩
  · have e : dq code = ([], k, dFl code k) := by unfold dq; rw [hf, if_neg (by omega)]
    rw [e]
    exact ⟨none, 0, rfl, fun k b hb => by simp at hb⟩
theorem dq_len (code : List In4) : (dq code).1.length ≤ code.length := by
  unfold dq
  split
  · rw [dps_len]; exact Nat.le_refl _
  · exact Nat.zero_le _
set_option maxHeartbeats 6400000 in
set_option maxRecDepth 100000 in
theorem law7_depths (A : Option Addr) (code : List In4) (n c : Nat) (hn : code.length = n ∧ n ≤ maxLen) (w : World) (hr : RdC w A code) (he : Ev w) :
    Calls Tryd.prog 4 #[.slice A n c] w fun r w' => r = .returned (.bool true) ∧ Nx w w' := by
  have hl := hn.2
  have HL := Lib.hid hn.1
  have AL := Lib.hid (fun w' (h : Nx w w') => alive7_any w' (he.nx h))
  have HR := Lib.hid hr
  clear hn hr he
  unfold maxLen at hl
  go_enter Tryd.func4, Tryd.ntmps4
  by_cases hb : 1000 < n
  · have hbi : (1000 : Int) < (n : Int) := by omega
    go_wp2_with fail
    refine (AL.out _ (Nx.refl _)).mono ?_
    rintro r w1 ⟨rfl, q1⟩
    go_wp2_with fail
    go_ret
    exact ⟨rfl, q1⟩
  have hbi : ¬ (1000 : Int) < (n : Int) := by omega
  go_wp2_with fail
  refine (depths_any A code n c HL.out (by omega) w HR.out).mono ?_
  intro r w1 hd
  obtain ⟨k1, Al, cl, rfl, rl⟩ := dp_uni hd
  have RD := Lib.hid (fun w' (k : Nx w1 w') => refDepths_any A code n c HL.out (by omega) w' ((HR.out.nx k1).nx k))
  have T1 := Lib.hid (fun w' (k : Nx w1 w') => targets_any A code n c HL.out (by omega) w' ((HR.out.nx k1).nx k))
  have T2 := Lib.hid (fun w' (k : Nx w1 w') => refTargets_any A code n c HL.out (by omega) w' ((HR.out.nx k1).nx k))
  have hts := tg_same code
  rw [HL.out] at hts
  rw [hts] at T1
  clear hts
  have M1 := Lib.hid k1
  have HLL := Lib.hid rl
  clear k1 hd rl
  have hdl := dq_len code
  rw [HL.out] at hdl
  have DU := Lib.hid (fun w w' e h => dr_uni (code := code) (w := w) (w' := w') (e := e) h)
  obtain ⟨Q, hq⟩ : ∃ Q, dq code = Q := ⟨_, rfl⟩
  rw [hq] at HLL hdl DU ⊢
  obtain ⟨D, N, E⟩ := Q
  simp only at HLL hdl DU ⊢
  clear hq
  obtain ⟨d, hd⟩ : ∃ d, D.length = d := ⟨_, rfl⟩
  rw [hd] at hdl DU
  rw [hd]
  have HDD := Lib.hid hd
  clear hd
  have htl := tgR_len code n
  obtain ⟨L, hL⟩ : ∃ L, tgR code n = L := ⟨_, rfl⟩
  rw [hL] at T1 T2 htl
  clear hL
  obtain ⟨l, hlL⟩ : ∃ l, L.length = l := ⟨_, rfl⟩
  rw [hlL] at htl
  have HLEN := Lib.hid hlL
  clear hlL
  go_wp2_with fail
  refine (RD.out w1 (Nx.refl _)).mono ?_
  intro r w2 hd
  obtain ⟨k2, Am, cm, rfl, rm⟩ := DU.out _ _ _ hd
  have K2 := Lib.hid k2
  have HMM := Lib.hid rm
  clear hd k2 rm DU RD
  go_wp2_with fail
  refine (T1.out w2 K2.out).mono ?_
  rintro r w3 ⟨Aa, ca, rfl, ra, k3⟩
  have K3 := Lib.hid (K2.out.trans k3)
  have HLA := Lib.hid ra
  have HM3 := Lib.hid (HMM.out.nx k3)
  clear ra k3 T1 HMM
  rw [HLEN.out]
  go_wp2_with fail
  refine (T2.out w3 K3.out).mono ?_
  rintro r w4 ⟨Ab, cb, rfl, rb, k4⟩
  have K4 := Lib.hid (K3.out.trans k4)
  have HLB := Lib.hid rb
  have HM4 := Lib.hid (HM3.out.nx k4)
  have HA4 := Lib.hid (HLA.out.nx k4)
  have HL4 := Lib.hid (HLL.out.nx K4.out)
  clear rb k4 T2 HM3 HLA HLL K2 K3
  rw [HLEN.out]
  go_wp2_with fail
  go_loopw [57] (fun i wr => ∃ k : Nat, k ≤ d ∧ i = .int .i64 k ∧ Nx w4 wr) (fun i _ => d - (intOf i).toNat)
  case atStart => exact ⟨0, Nat.zero_le _, rfl, Nx.refl _⟩
  case round =>
    obtain ⟨k, hk, rfl, hnx⟩ := hrel
    have HN := Lib.hid hnx
    clear hnx
    by_cases hlt : k < d
    · have hki : (k : Int) < (d : Int) := by omega
      obtain ⟨y, hy⟩ : ∃ y, D[k]? = some y := ⟨_, List.getElem?_eq_getElem (by rw [HDD.out]; exact hlt)⟩
      obtain ⟨al, rfl, p1⟩ := (HL4.out.nx HN.out) k y hy
      obtain ⟨am, rfl, p2⟩ := (HM4.out.nx HN.out) k y hy
      clear hy
      have e1 : ((y : Int) == (y : Int)) = true := by simp
      have e2 : ((y : Int) != (y : Int)) = false := by simp
      go_wp2_with fail
      go_quiet (fail)
      go_wp2_with fail
      go_roundw
      case rel => exact ⟨k + 1, by omega, by go_num, HN.out.drewN _⟩
      case measure => simp [intOf]; omega
    · obtain rfl : k = d := by omega
      have hki : ¬ (k : Int) < (k : Int) := by omega
      go_wp2_with fail
      clear hki hlt hk
      have HA5 := Lib.hid (HA4.out.nx HN.out)
      have HB5 := Lib.hid (HLB.out.nx HN.out)
      go_loopw [72] (fun i wr2 => ∃ k : Nat, k ≤ l ∧ i = .int .i64 k ∧ Nx wr wr2) (fun i _ => l - (intOf i).toNat)
      case atStart => exact ⟨0, Nat.zero_le _, rfl, Nx.refl _⟩
      case round =>
        obtain ⟨k, hk, rfl, hnx⟩ := hrel
        have HN2 := Lib.hid hnx
        clear hnx
        by_cases hlt : k < l
        · have hki : (k : Int) < (l : Int) := by omega
          obtain ⟨y, hy⟩ : ∃ y, L[k]? = some y := ⟨_, List.getElem?_eq_getElem (by rw [HLEN.out]; exact hlt)⟩
          obtain ⟨aa, rfl, p1⟩ := (HA5.out.nx HN2.out) k y hy
          obtain ⟨ab, rfl, p2⟩ := (HB5.out.nx HN2.out) k y hy
          clear hy
          have e1 : (y == y) = true := by simp
          have e2 : (y != y) = false := by simp
          go_wp2_with fail
          go_quiet (fail)
          go_wp2_with fail
          go_roundw
          case rel => exact ⟨k + 1, by omega, by go_num, HN2.out.drewN _⟩
          case measure => simp [intOf]; omega
        · obtain rfl : k = l := by omega
          have hki : ¬ (k : Int) < (k : Int) := by omega
          have N9 := Lib.hid (M1.out.trans (K4.out.trans (HN.out.trans HN2.out)))
          go_wp2_with fail
          refine (AL.out _ N9.out).mono ?_
          rintro r w9 ⟨rfl, q9⟩
          go_wp2_with fail
          go_ret
          exact ⟨rfl, N9.out.trans q9⟩
end Go.Proofs.YtdpccnpaajhliaaDoor
