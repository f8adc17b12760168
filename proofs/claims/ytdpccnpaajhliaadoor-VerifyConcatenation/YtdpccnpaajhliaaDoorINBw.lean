/- The walk of VerifyDepthLimit. Condition: the table of opcodes holds what the program's text lays. -/
import Derived.Test.YtdpccnpaajhliaaDoorINB
namespace Go.Proofs.YtdpccnpaajhliaaDoor
open Go.RowKit

theorem own_ge7 {w : World} {B : Nat} {T : TypeId} {sz n g : Nat} {v : Value} {xs : List Value} (h : w.ownsRow B T sz v n xs) (e : v.ownBlock = some g) : B ≤ g := by
  rcases h.2 with ⟨rfl, _⟩ | ⟨g', cap, cur, rfl, hb, _⟩
  · cases e
  · simp [Value.ownBlock] at e; omega
theorem own_code7 {w : World} {B n : Nat} {v : Value} {code : List In4} (h : w.ownsRow B 44 4 v n (ins code)) (hn : code.length = n) : ∃ A c, v = .slice A n c ∧ RdC w A code := by
  subst hn
  obtain ⟨A, c, e, hr, _⟩ := OwC.rd (show OwC w B v code from h)
  exact ⟨A, c, e, hr⟩

set_option maxHeartbeats 6400000 in
set_option maxRecDepth 100000 in
theorem law7_limit_at (b : Bool) (o : Int) (k : Nat) (hk : k < 80) (hok : o.tmod 80 = (k : Int)) (w : World) (he : Ev w) :
    Calls Tryd.prog 5 #[.int .u8 o, .bool b] w fun e w' => e = .returned (.bool true) ∧ Nx w w' := by
  obtain ⟨i0, hi, hz0, hz1, hz2⟩ := info_parts infoIns
  have HE := Lib.hid he
  clear he
  go_enter Tryd.func5, Tryd.ntmps5
  go_wp2_with fail
  go_loopw [6, 14] (fun s i wr => ∃ j : Nat, j ≤ k ∧ i = .int .i64 j ∧ wr.ownsRow w.heap.size 44 4 s j (ins (lmA j)) ∧ Nx w wr) (fun _ i _ => k - (intOf i).toNat)
  case atStart => exact ⟨0, Nat.zero_le _, rfl, World.ownsRow_nil _ _ _ _, Nx.refl _⟩
  case round =>
    obtain ⟨j, hj, rfl, hown, hnx⟩ := hrel
    have HO := Lib.hid hown
    have HN := Lib.hid hnx
    have hsz := Lib.hid hnx.size
    clear hown hnx
    by_cases hjn : j < k
    · have hji : (j : Int) < (k : Int) := by omega
      go_wp2_with (first | (at_builtin; refine wpList_append_own _ rfl (.tmp 16) (.tmp 18) 24 rfl w.heap.size 44 i0 (.agg #[.int .i64 0, .int .i64 0, .int .i64 0, .int .i64 0]) 4 32 Tryd.underlying24 hi hz0 hz1 hz2 rfl (by decide) _ _ _ rfl (World.ownsRow.alloc HO.out _) ⟨wr.heap.size, 0, none⟩ 1 1 (oV 8) rfl rfl (fun j u hj => by rw [Addr.add_lit, Nat.zero_add]; exact (bx_new wr 44 (oV 8)).cell j hj) (fun u hu => by simp [oV] at hu; rcases hu with rfl | rfl <;> rfl) (by unfold maxLen; omega) (by omega) (by have := hsz.out; simp; omega) ?_))
      intro v' w' ho hg _
      have N1 := Lib.hid (show Nx w w' from Below.grown (HN.out.alloc _) hg (HN.out.alloc _).size (fun g e => own_ge7 HO.out e))
      have O1 := Lib.hid (show w'.ownsRow w.heap.size 44 4 v' (j + 1) (ins (lmA (j + 1))) by rw [lmA_succ, ins_snoc7]; exact ho)
      clear ho hg HO HN
      go_wp2_with fail
      go_roundw
      case rel => exact ⟨j + 1, by omega, by go_num, O1.out, N1.out⟩
      case measure => simp [intOf]; omega
    · obtain rfl : k = j := by omega
      have hji : ¬ (k : Int) < (k : Int) := by omega
      go_wp2_with fail
      clear hji
      rw [← lmB_zero] at HO
      go_loopw [6, 22] (fun s i wr => ∃ j : Nat, j ≤ k ∧ i = .int .i64 j ∧ wr.ownsRow w.heap.size 44 4 s (k + j) (ins (lmB k j)) ∧ Nx w wr) (fun _ i _ => k - (intOf i).toNat)
      case atStart => exact ⟨0, Nat.zero_le _, rfl, HO.out, HN.out⟩
      case round =>
        obtain ⟨j, hj, rfl, hown, hnx⟩ := hrel
        clear HO HN hsz
        have HO := Lib.hid hown
        have HN := Lib.hid hnx
        have hsz := Lib.hid hnx.size
        clear hown hnx
        by_cases hjn : j < k
        · have hji : (j : Int) < (k : Int) := by omega
          go_wp2_with (first | (at_builtin; refine wpList_append_own _ rfl (.tmp 24) (.tmp 26) 24 rfl w.heap.size 44 i0 (.agg #[.int .i64 0, .int .i64 0, .int .i64 0, .int .i64 0]) 4 32 Tryd.underlying24 hi hz0 hz1 hz2 rfl (by decide) _ _ _ rfl (World.ownsRow.alloc HO.out _) ⟨wr.heap.size, 0, none⟩ 1 1 (oV 10) rfl rfl (fun j u hj => by rw [Addr.add_lit, Nat.zero_add]; exact (bx_new wr 44 (oV 10)).cell j hj) (fun u hu => by simp [oV] at hu; rcases hu with rfl | rfl <;> rfl) (by unfold maxLen; omega) (by omega) (by have := hsz.out; simp; omega) ?_))
          intro v' w' ho hg _
          have N1 := Lib.hid (show Nx w w' from Below.grown (HN.out.alloc _) hg (HN.out.alloc _).size (fun g e => own_ge7 HO.out e))
          have O1 := Lib.hid (show w'.ownsRow w.heap.size 44 4 v' (k + (j + 1)) (ins (lmB k (j + 1))) by rw [lmB_succ, ins_snoc7]; exact ho)
          clear ho hg HO HN
          go_wp2_with fail
          go_roundw
          case rel => exact ⟨j + 1, by omega, by go_num, O1.out, N1.out⟩
          case measure => simp [intOf]; omega
        · obtain rfl : k = j := by omega
          have hji : ¬ (k : Int) < (k : Int) := by omega
          clear hji
          have hji : ¬ (k : Int) < (k : Int) := by omega
          cases b
          · go_wp2_with (first | (at_builtin; refine wpList_append_own _ rfl (.tmp 34) (.tmp 36) 24 rfl w.heap.size 44 i0 (.agg #[.int .i64 0, .int .i64 0, .int .i64 0, .int .i64 0]) 4 32 Tryd.underlying24 hi hz0 hz1 hz2 rfl (by decide) _ _ _ rfl (World.ownsRow.alloc HO.out _) ⟨wr.heap.size, 0, none⟩ 1 1 (oV 16) rfl rfl (fun j u hj => by rw [Addr.add_lit, Nat.zero_add]; exact (bx_new wr 44 (oV 16)).cell j hj) (fun u hu => by simp [oV] at hu; rcases hu with rfl | rfl <;> rfl) (by unfold maxLen; omega) (by omega) (by have := hsz.out; simp; omega) ?_))
            intro v' w' ho hg _
            have N1 := Lib.hid (show Nx w w' from Below.grown (HN.out.alloc _) hg (HN.out.alloc _).size (fun g e => own_ge7 HO.out e))
            obtain ⟨A, c, rfl, hr⟩ := own_code7 (show w'.ownsRow w.heap.size 44 4 v' (k + k + 1) (ins (lmD k false)) by rw [show lmD k false = lmB k k ++ [oI 16] from rfl, ins_snoc7]; exact ho) (lmD_len k false)
            have HR := Lib.hid hr
            clear ho hg HO HN hr hji
            have CK := Lib.hid (check_any 0 0 0 0 A (lmD k false) (k + k + 1) c (lmD_len k false) (by unfold maxLen; omega) w' HR.out (HE.out.nx N1.out))
            unfold pgV at CK
            go_wp2_with fail
            refine (CK.out).mono ?_
            rintro r w2 ⟨rfl, q2⟩
            have N2 := Lib.hid (N1.out.trans q2)
            clear q2 CK
            by_cases h64 : 64 < k
            · have h64' : (64 : Int) < (k : Int) := by omega
              rw [lm_deep hk h64]
              go_wp2_with fail
              refine (alive7_any w2 (HE.out.nx N2.out)).mono ?_
              rintro r w3 ⟨rfl, q3⟩
              go_wp2_with fail
              go_ret
              exact ⟨rfl, N2.out.trans q3⟩
            · have h64' : ¬ (64 : Int) < (k : Int) := by omega
              rw [lm_fine (by omega)]
              go_wp2_with fail
              refine (alive7_any w2 (HE.out.nx N2.out)).mono ?_
              rintro r w3 ⟨rfl, q3⟩
              go_wp2_with fail
              go_ret
              exact ⟨rfl, N2.out.trans q3⟩
          · go_wp2_with (first | (at_builtin; refine wpList_append_own _ rfl (.tmp 30) (.tmp 32) 24 rfl w.heap.size 44 i0 (.agg #[.int .i64 0, .int .i64 0, .int .i64 0, .int .i64 0]) 4 32 Tryd.underlying24 hi hz0 hz1 hz2 rfl (by decide) _ _ _ rfl (World.ownsRow.alloc HO.out _) ⟨wr.heap.size, 0, none⟩ 1 1 (oV 9) rfl rfl (fun j u hj => by rw [Addr.add_lit, Nat.zero_add]; exact (bx_new wr 44 (oV 9)).cell j hj) (fun u hu => by simp [oV] at hu; rcases hu with rfl | rfl <;> rfl) (by unfold maxLen; omega) (by omega) (by have := hsz.out; simp; omega) ?_))
            intro v' w' ho hg _
            have N1 := Lib.hid (show Nx w w' from Below.grown (HN.out.alloc _) hg (HN.out.alloc _).size (fun g e => own_ge7 HO.out e))
            have O1 := Lib.hid (show w'.ownsRow w.heap.size 44 4 v' (k + k + 1) (ins (lmC k true)) by rw [show lmC k true = lmB k k ++ [oI 9] from rfl, ins_snoc7]; exact ho)
            clear ho hg HO HN hsz hji
            have HO := O1
            have hsz := Lib.hid N1.out.size
            go_wp2_with (first | (at_builtin; refine wpList_append_own _ rfl (.tmp 34) (.tmp 36) 24 rfl w.heap.size 44 i0 (.agg #[.int .i64 0, .int .i64 0, .int .i64 0, .int .i64 0]) 4 32 Tryd.underlying24 hi hz0 hz1 hz2 rfl (by decide) _ _ _ rfl (World.ownsRow.alloc HO.out _) ⟨w'.heap.size, 0, none⟩ 1 1 (oV 16) rfl rfl (fun j u hj => by rw [Addr.add_lit, Nat.zero_add]; exact (bx_new w' 44 (oV 16)).cell j hj) (fun u hu => by simp [oV] at hu; rcases hu with rfl | rfl <;> rfl) (by unfold maxLen; omega) (by omega) (by have := hsz.out; simp; omega) ?_))
            intro v2 w2 ho hg _
            have N2 := Lib.hid (show Nx w w2 from Below.grown (N1.out.alloc _) hg (N1.out.alloc _).size (fun g e => own_ge7 HO.out e))
            obtain ⟨A, c, rfl, hr⟩ := own_code7 (show w2.ownsRow w.heap.size 44 4 v2 (k + k + 1 + 1) (ins (lmD k true)) by rw [show lmD k true = lmC k true ++ [oI 16] from rfl, ins_snoc7]; exact ho) (lmD_len k true)
            have HR := Lib.hid hr
            clear ho hg HO O1 hr
            have CK := Lib.hid (check_any 0 0 0 0 A (lmD k true) (k + k + 1 + 1) c (lmD_len k true) (by unfold maxLen; omega) w2 HR.out (HE.out.nx N2.out))
            unfold pgV at CK
            go_wp2_with fail
            refine (CK.out).mono ?_
            rintro r w3 ⟨rfl, q3⟩
            have N3 := Lib.hid (N2.out.trans q3)
            clear q3 CK
            by_cases h64 : 64 < k
            · have h64' : (64 : Int) < (k : Int) := by omega
              rw [lm_deep hk h64]
              go_wp2_with fail
              refine (alive7_any w3 (HE.out.nx N3.out)).mono ?_
              rintro r w4 ⟨rfl, q4⟩
              go_wp2_with fail
              go_ret
              exact ⟨rfl, N3.out.trans q4⟩
            · have h64' : ¬ (64 : Int) < (k : Int) := by omega
              rw [lm_pops (by omega)]
              have hc : ((k + k : Nat) : Int) = 2 * (k : Int) := by omega
              rw [hc]
              have e1 : ((2 * (k : Int)) == (2 * (k : Int))) = true := by simp
              go_wp2_with fail
              refine (alive7_any w3 (HE.out.nx N3.out)).mono ?_
              rintro r w4 ⟨rfl, q4⟩
              go_wp2_with fail
              go_ret
              exact ⟨rfl, N3.out.trans q4⟩
theorem law7_limit (o : Int) (b : Bool) (h : 0 ≤ o ∧ o ≤ 255) (w : World) (he : Ev w) :
    Calls Tryd.prog 5 #[.int .u8 o, .bool b] w fun e w' => e = .returned (.bool true) ∧ Nx w w' := by
  have h1 := Int.tmod_nonneg 80 h.1
  have h2 := Int.tmod_lt_of_pos o (show (0 : Int) < 80 by decide)
  obtain ⟨k, hk⟩ : ∃ k : Nat, o.tmod 80 = (k : Int) := ⟨(o.tmod 80).toNat, by omega⟩
  exact law7_limit_at b o k (by omega) hk w he
theorem u8_in {n : Int} (h : (Lit.int .u8 n).wf = true) : 0 ≤ n ∧ n ≤ 255 := by
  simpa [Lit.wf, IntKind.min, IntKind.max, IntKind.signed, IntKind.bits] using h
end Go.Proofs.YtdpccnpaajhliaaDoor
