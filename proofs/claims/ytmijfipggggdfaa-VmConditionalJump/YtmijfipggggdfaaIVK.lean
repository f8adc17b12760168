/- The walk of the law on jumps, the contracts of the program's Run and of alive given. Condition: these. -/
import Derived.Test.YtmijfipggggdfaaIVJ
namespace Go.Proofs.Ytmijfipggggdfaa
open Go.RowKit

theorem ins_app (a b : List In4) : ins (a ++ b) = ins a ++ ins b := by
  induction a with
  | nil => rfl
  | cons x l ih => simp [ins, ih]
def jmpPre (n j : Nat) : List In4 := [⟨0, 0, 0, 0⟩, ⟨15, 0, 0, (2 : Int) + n⟩] ++ List.replicate j ⟨12, 1, 0, 0⟩
theorem jmpPre_succ (n j : Nat) : ins (jmpPre n (j + 1)) = ins (jmpPre n j) ++ [.int .i64 12, .int .i64 1, .int .i64 0, .int .i64 0] := by
  have : jmpPre n (j + 1) = jmpPre n j ++ [⟨12, 1, 0, 0⟩] := by simp [jmpPre, List.replicate_succ']
  rw [this, ins_app]
  rfl
theorem jmp_facts (n : Nat) (hn : n < 50) (v : Bool) : ∃ r, run (jmpCode n) [v] (mc0 [false] [] []) 0 = r ∧ r.1.q = [!v && decide (0 < n)] ∧ r.1.flt = 0 ∧ r.2 = (if v then 3 else 3 + n) ∧ r.1.pc = 2 + n ∧ r.1.m.length = 0 ∧ r.1.e.length = 0 := by
  have h1 := List.all_eq_true.1 jmp_all n (List.mem_range.2 hn)
  have h2 := List.all_eq_true.1 h1 v (by cases v <;> simp)
  simp only [Bool.and_eq_true, beq_iff_eq] at h2
  have hl := run_len (jmpCode n) [v] (mc0 [false] [] []) 0
  exact ⟨_, rfl, h2.1.1.1, h2.1.1.2, h2.1.2, h2.2, hl.2.1, hl.2.2⟩
theorem own_ge {w : World} {B : Nat} {T : TypeId} {sz n g : Nat} {v : Value} {xs : List Value} (h : w.ownsRow B T sz v n xs) (e : v.ownBlock = some g) : B ≤ g := by
  rcases h.2 with ⟨rfl, _⟩ | ⟨g', cap, cur, rfl, hb, _⟩
  · cases e
  · simp [Value.ownBlock] at e; omega
theorem jmpCode_pre (n : Nat) : jmpCode n = jmpPre n n ++ [⟨16, 0, 0, 0⟩] := by simp [jmpCode, jmpPre]
theorem own_code {w : World} {B n : Nat} {v : Value} (h : w.ownsRow B 53 4 v (2 + n + 1) (ins (jmpPre n n) ++ [.int .i64 16, .int .i64 0, .int .i64 0, .int .i64 0])) (hn : ¬ v = .slice none 0 0) :
    ∃ g c, v = .slice (some ⟨g, 0, none⟩) (jmpCode n).length c ∧ RdC w (some ⟨g, 0, none⟩) (jmpCode n) := by
  have hl : (jmpCode n).length = 2 + n + 1 := by simp [jmpCode]; omega
  have hi : ins (jmpCode n) = ins (jmpPre n n) ++ [.int .i64 16, .int .i64 0, .int .i64 0, .int .i64 0] := by rw [jmpCode_pre, ins_app]; rfl
  rw [← hl, ← hi] at h
  rcases h.2 with ⟨rfl, _⟩ | ⟨g, cap, cur, rfl, _⟩
  · exact absurd rfl hn
  · obtain ⟨A, c, e, hr, _⟩ := OwC.rd h
    simp only [Value.slice.injEq] at e
    obtain ⟨rfl, _, rfl⟩ := e
    exact ⟨_, _, rfl, hr⟩
set_option maxHeartbeats 3200000 in
set_option maxRecDepth 100000 in
theorem law6_jump_t (hR : RunOk) (hA : AlOk) (o : Int) (n : Nat) (hn : n < 50) (hk : o.tmod 50 = (n : Int)) (w : World) :
    Calls Try.prog 9 #[.bool true, .int .u8 o] w fun e w' => e = .returned (.bool true) ∧ Nx w w' := by
  have HA := Lib.hid hA
  have HR := Lib.hid hR
  obtain ⟨i0, hi, hz0, hz1, hz2⟩ := info_parts infoIns
  have N0 := Lib.hid (Nx.one w (.cells #[.int .i64 0, .int .i64 0, .int .i64 0, .int .i64 0, .int .i64 15, .int .i64 0, .int .i64 0, .int .i64 ((2 : Int) + n)] 53))
  have O0 := Lib.hid (World.ownsRow_lit (base := w.heap.size) (e := 53) (size := 4) w #[.int .i64 0, .int .i64 0, .int .i64 0, .int .i64 0, .int .i64 15, .int .i64 0, .int .i64 0, .int .i64 ((2 : Int) + n)] 2 (Nat.le_refl _) (by unfold maxLen; omega) rfl)
  clear hA hR
  go_enter Try.func9, Try.ntmps9
  go_wp2_with fail
  go_loopw [6, 18] (fun s i wr => ∃ j : Nat, j ≤ n ∧ i = .int .i64 j ∧ wr.ownsRow w.heap.size 53 4 s (2 + j) (ins (jmpPre n j)) ∧ Nx w wr) (fun _ i _ => n - (intOf i).toNat)
  case atStart => exact ⟨0, Nat.zero_le _, rfl, O0.out, N0.out⟩
  case round =>
    obtain ⟨j, hj, rfl, hown, hnx⟩ := hrel
    have HO := Lib.hid hown
    have HN := Lib.hid hnx
    have hsz := Lib.hid hnx.size
    clear hown hnx O0 N0
    by_cases hjn : j < n
    · have hji : (j : Int) < (n : Int) := by omega
      go_wp2_with (first | (at_builtin; refine wpList_append_own _ rfl (.tmp 20) (.tmp 23) 22 rfl w.heap.size 53 i0 (.agg #[.int .i64 0, .int .i64 0, .int .i64 0, .int .i64 0]) 4 32 Try.underlying22 hi hz0 hz1 hz2 rfl (by decide) _ _ _ rfl (World.ownsRow.alloc HO.out _) ⟨wr.heap.size, 0, none⟩ 1 1 [.int .i64 12, .int .i64 1, .int .i64 0, .int .i64 0] rfl rfl (fun j u hj => by rw [Addr.add_lit, Nat.zero_add]; exact (bx_new wr 53 [.int .i64 12, .int .i64 1, .int .i64 0, .int .i64 0]).cell j hj) (fun u hu => by simp at hu; rcases hu with rfl | rfl | rfl | rfl <;> rfl) (by unfold maxLen; omega) (by omega) (by have := hsz.out; simp; omega) ?_))
      intro v' w' ho hg _
      have N1 := Lib.hid (show Nx w w' from Below.grown (HN.out.alloc _) hg (HN.out.alloc _).size (fun g e => own_ge HO.out e))
      have O1 := Lib.hid ho
      clear ho hg HO HN
      go_wp2_with fail
      go_roundw
      case rel => exact ⟨j + 1, by omega, by go_num, by rw [jmpPre_succ]; exact O1.out, N1.out⟩
      case measure => simp [intOf]; omega
    · obtain rfl : j = n := by omega
      have hji : ¬ (j : Int) < (j : Int) := by omega
      go_wp2_with (first | (at_builtin; refine wpList_append_own _ rfl (.tmp 26) (.tmp 28) 22 rfl w.heap.size 53 i0 (.agg #[.int .i64 0, .int .i64 0, .int .i64 0, .int .i64 0]) 4 32 Try.underlying22 hi hz0 hz1 hz2 rfl (by decide) _ _ _ rfl (World.ownsRow.alloc HO.out _) ⟨wr.heap.size, 0, none⟩ 1 1 [.int .i64 16, .int .i64 0, .int .i64 0, .int .i64 0] rfl rfl (fun j u hj => by rw [Addr.add_lit, Nat.zero_add]; exact (bx_new wr 53 [.int .i64 16, .int .i64 0, .int .i64 0, .int .i64 0]).cell j hj) (fun u hu => by simp at hu; rcases hu with rfl | rfl | rfl | rfl <;> rfl) (by unfold maxLen; omega) (by omega) (by have := hsz.out; simp; omega) ?_))
      intro v' w' ho hg hnn
      have N1 := Lib.hid (show Nx w w' from Below.grown (HN.out.alloc _) hg (HN.out.alloc _).size (fun g e => own_ge HO.out e))
      obtain ⟨g, cap, rfl, hrd⟩ := own_code ho hnn
      have RD := Lib.hid hrd
      clear ho hg HO HN hnn hrd
      go_wp2_with fail
      have N3 := Lib.hid ((N1.out.alloc (.cells #[.bool true] 4)).alloc (.cells #[.bool false] 4))
      have K3 := Lib.hid (show Nx w' ((w'.alloc (.cells #[.bool true] 4)).alloc (.cells #[.bool false] 4)) from (Nx.one _ _).alloc _)
      have XI := Lib.hid ((bx_new w' 4 [.bool true]).nx (Nx.one _ (.cells #[.bool false] 4)))
      have XQ := Lib.hid (bx_new (w'.alloc (.cells #[.bool true] 4)) 4 [.bool false])
      rw [show (w'.alloc (.cells #[.bool true] 4)).heap.size = w'.heap.size + 1 by simp] at XQ
      generalize (w'.alloc (.cells #[.bool true] 4)).alloc (.cells #[.bool false] 4) = W at *
      refine (HR.out (jmpCode j) [true] [false] [] [] _ _ _ _ _ cap 1 _ 1 _ 0 0 0 0 W (by simp [jmpCode]; omega) (by decide) (by decide) (by decide) (by decide) (RD.out.nx K3.out) (fun e => by cases e) (im_bx XI.out) (im_bx XQ.out) (im_nil W) (im_nil W)).mono ?_
      intro e w5 hp
      obtain ⟨B1, B2, B3, d1, d2, d3, rfl, i1, i2, i3, hn5⟩ := runPost_cells hp
      obtain ⟨r, hr, r1, r2, r3, r4, r5, r6⟩ := jmp_facts j hn true
      rw [hr] at i1 ⊢
      have r1' : r.1.q = [false] := by rw [r1]; simp
      have r3' : r.2 = 3 := by rw [r3]; rfl
      rw [r1'] at i1
      rw [r1', r2, r3', r4, r5, r6]
      obtain ⟨ad, e0, g0⟩ := i1.1 0 false rfl
      subst e0
      have N5 := Lib.hid (N3.out.trans hn5)
      have G0 := Lib.hid g0
      clear hp i1 i2 i3 hn5 g0 hr r1 r2 r3 r4 r5 r6 r1' r3' K3 RD
      simp only [List.length_cons, List.length_nil, Nat.zero_add]
      go_wp2_with fail
      have k5 := Lib.hid (Nx.one w5 (.cells #[.slice (some ad) 1 d1, .slice B2 0 d2, .slice B3 0 d3, .int .i64 3, .int .i64 ((2 : Int) + j), .int .i64 0] 30))
      have HY := Lib.hid (bx_new w5 30 [.slice (some ad) 1 d1, .slice B2 0 d2, .slice B3 0 d3, .int .i64 3, .int .i64 ((2 : Int) + j), .int .i64 0])
      generalize w5.alloc (.cells #[.slice (some ad) 1 d1, .slice B2 0 d2, .slice B3 0 d3, .int .i64 3, .int .i64 ((2 : Int) + j), .int .i64 0] 30) = W6 at *
      refine (HA.out W6).mono ?_
      rintro e w7 ⟨rfl, hn7⟩
      have k7 := Lib.hid (k5.out.trans hn7)
      have N7 := Lib.hid (N5.out.trans k7.out)
      have u0 := (HY.out.nx hn7).cell 0 rfl
      have u3 := (HY.out.nx hn7).cell 3 rfl
      have u4 := (HY.out.nx hn7).cell 4 rfl
      have u5 := (HY.out.nx hn7).cell 5 rfl
      have c0 := k7.out.cell G0.out
      rw [Addr.add_zero'] at c0
      clear hn7 k5 HY
      go_wp2_with fail
      go_ret
      exact ⟨rfl, N7.out⟩
set_option maxHeartbeats 3200000 in
set_option maxRecDepth 100000 in
theorem law6_jump_fp (hR : RunOk) (hA : AlOk) (o : Int) (n : Nat) (hn : n < 50) (hz : 0 < n) (hk : o.tmod 50 = (n : Int)) (w : World) :
    Calls Try.prog 9 #[.bool false, .int .u8 o] w fun e w' => e = .returned (.bool true) ∧ Nx w w' := by
  have HA := Lib.hid hA
  have HR := Lib.hid hR
  obtain ⟨i0, hi, hz0, hz1, hz2⟩ := info_parts infoIns
  have N0 := Lib.hid (Nx.one w (.cells #[.int .i64 0, .int .i64 0, .int .i64 0, .int .i64 0, .int .i64 15, .int .i64 0, .int .i64 0, .int .i64 ((2 : Int) + n)] 53))
  have O0 := Lib.hid (World.ownsRow_lit (base := w.heap.size) (e := 53) (size := 4) w #[.int .i64 0, .int .i64 0, .int .i64 0, .int .i64 0, .int .i64 15, .int .i64 0, .int .i64 0, .int .i64 ((2 : Int) + n)] 2 (Nat.le_refl _) (by unfold maxLen; omega) rfl)
  clear hA hR
  go_enter Try.func9, Try.ntmps9
  go_wp2_with fail
  go_loopw [6, 18] (fun s i wr => ∃ j : Nat, j ≤ n ∧ i = .int .i64 j ∧ wr.ownsRow w.heap.size 53 4 s (2 + j) (ins (jmpPre n j)) ∧ Nx w wr) (fun _ i _ => n - (intOf i).toNat)
  case atStart => exact ⟨0, Nat.zero_le _, rfl, O0.out, N0.out⟩
  case round =>
    obtain ⟨j, hj, rfl, hown, hnx⟩ := hrel
    have HO := Lib.hid hown
    have HN := Lib.hid hnx
    have hsz := Lib.hid hnx.size
    clear hown hnx O0 N0
    by_cases hjn : j < n
    · have hji : (j : Int) < (n : Int) := by omega
      go_wp2_with (first | (at_builtin; refine wpList_append_own _ rfl (.tmp 20) (.tmp 23) 22 rfl w.heap.size 53 i0 (.agg #[.int .i64 0, .int .i64 0, .int .i64 0, .int .i64 0]) 4 32 Try.underlying22 hi hz0 hz1 hz2 rfl (by decide) _ _ _ rfl (World.ownsRow.alloc HO.out _) ⟨wr.heap.size, 0, none⟩ 1 1 [.int .i64 12, .int .i64 1, .int .i64 0, .int .i64 0] rfl rfl (fun j u hj => by rw [Addr.add_lit, Nat.zero_add]; exact (bx_new wr 53 [.int .i64 12, .int .i64 1, .int .i64 0, .int .i64 0]).cell j hj) (fun u hu => by simp at hu; rcases hu with rfl | rfl | rfl | rfl <;> rfl) (by unfold maxLen; omega) (by omega) (by have := hsz.out; simp; omega) ?_))
      intro v' w' ho hg _
      have N1 := Lib.hid (show Nx w w' from Below.grown (HN.out.alloc _) hg (HN.out.alloc _).size (fun g e => own_ge HO.out e))
      have O1 := Lib.hid ho
      clear ho hg HO HN
      go_wp2_with fail
      go_roundw
      case rel => exact ⟨j + 1, by omega, by go_num, by rw [jmpPre_succ]; exact O1.out, N1.out⟩
      case measure => simp [intOf]; omega
    · obtain rfl : j = n := by omega
      have hji : ¬ (j : Int) < (j : Int) := by omega
      go_wp2_with (first | (at_builtin; refine wpList_append_own _ rfl (.tmp 26) (.tmp 28) 22 rfl w.heap.size 53 i0 (.agg #[.int .i64 0, .int .i64 0, .int .i64 0, .int .i64 0]) 4 32 Try.underlying22 hi hz0 hz1 hz2 rfl (by decide) _ _ _ rfl (World.ownsRow.alloc HO.out _) ⟨wr.heap.size, 0, none⟩ 1 1 [.int .i64 16, .int .i64 0, .int .i64 0, .int .i64 0] rfl rfl (fun j u hj => by rw [Addr.add_lit, Nat.zero_add]; exact (bx_new wr 53 [.int .i64 16, .int .i64 0, .int .i64 0, .int .i64 0]).cell j hj) (fun u hu => by simp at hu; rcases hu with rfl | rfl | rfl | rfl <;> rfl) (by unfold maxLen; omega) (by omega) (by have := hsz.out; simp; omega) ?_))
      intro v' w' ho hg hnn
      have N1 := Lib.hid (show Nx w w' from Below.grown (HN.out.alloc _) hg (HN.out.alloc _).size (fun g e => own_ge HO.out e))
      obtain ⟨g, cap, rfl, hrd⟩ := own_code ho hnn
      have RD := Lib.hid hrd
      clear ho hg HO HN hnn hrd
      go_wp2_with fail
      have N3 := Lib.hid ((N1.out.alloc (.cells #[.bool false] 4)).alloc (.cells #[.bool false] 4))
      have K3 := Lib.hid (show Nx w' ((w'.alloc (.cells #[.bool false] 4)).alloc (.cells #[.bool false] 4)) from (Nx.one _ _).alloc _)
      have XI := Lib.hid ((bx_new w' 4 [.bool false]).nx (Nx.one _ (.cells #[.bool false] 4)))
      have XQ := Lib.hid (bx_new (w'.alloc (.cells #[.bool false] 4)) 4 [.bool false])
      rw [show (w'.alloc (.cells #[.bool false] 4)).heap.size = w'.heap.size + 1 by simp] at XQ
      generalize (w'.alloc (.cells #[.bool false] 4)).alloc (.cells #[.bool false] 4) = W at *
      refine (HR.out (jmpCode j) [false] [false] [] [] _ _ _ _ _ cap 1 _ 1 _ 0 0 0 0 W (by simp [jmpCode]; omega) (by decide) (by decide) (by decide) (by decide) (RD.out.nx K3.out) (fun e => by cases e) (im_bx XI.out) (im_bx XQ.out) (im_nil W) (im_nil W)).mono ?_
      intro e w5 hp
      obtain ⟨B1, B2, B3, d1, d2, d3, rfl, i1, i2, i3, hn5⟩ := runPost_cells hp
      obtain ⟨r, hr, r1, r2, r3, r4, r5, r6⟩ := jmp_facts j hn false
      rw [hr] at i1 ⊢
      have r1' : r.1.q = [true] := by rw [r1]; simp [hz]
      have r3' : r.2 = 3 + j := by rw [r3]; rfl
      rw [r1'] at i1
      rw [r1', r2, r3', r4, r5, r6]
      obtain ⟨ad, e0, g0⟩ := i1.1 0 true rfl
      subst e0
      have N5 := Lib.hid (N3.out.trans hn5)
      have G0 := Lib.hid g0
      clear hp i1 i2 i3 hn5 g0 hr r1 r2 r3 r4 r5 r6 r1' r3' K3 RD
      simp only [List.length_cons, List.length_nil, Nat.zero_add]
      go_wp2_with fail
      have k5 := Lib.hid (Nx.one w5 (.cells #[.slice (some ad) 1 d1, .slice B2 0 d2, .slice B3 0 d3, .int .i64 ((3 : Int) + j), .int .i64 ((2 : Int) + j), .int .i64 0] 30))
      have HY := Lib.hid (bx_new w5 30 [.slice (some ad) 1 d1, .slice B2 0 d2, .slice B3 0 d3, .int .i64 ((3 : Int) + j), .int .i64 ((2 : Int) + j), .int .i64 0])
      generalize w5.alloc (.cells #[.slice (some ad) 1 d1, .slice B2 0 d2, .slice B3 0 d3, .int .i64 ((3 : Int) + j), .int .i64 ((2 : Int) + j), .int .i64 0] 30) = W6 at *
      refine (HA.out W6).mono ?_
      rintro e w7 ⟨rfl, hn7⟩
      have k7 := Lib.hid (k5.out.trans hn7)
      have N7 := Lib.hid (N5.out.trans k7.out)
      have u0 := (HY.out.nx hn7).cell 0 rfl
      have u3 := (HY.out.nx hn7).cell 3 rfl
      have u4 := (HY.out.nx hn7).cell 4 rfl
      have u5 := (HY.out.nx hn7).cell 5 rfl
      have c0 := k7.out.cell G0.out
      rw [Addr.add_zero'] at c0
      clear hn7 k5 HY
      have hz2 : (0 : Int) < (j : Int) := by omega
      go_wp2_with fail
      go_ret
      exact ⟨rfl, N7.out⟩
set_option maxHeartbeats 3200000 in
set_option maxRecDepth 100000 in
theorem law6_jump_fz (hR : RunOk) (hA : AlOk) (o : Int) (n : Nat) (hn : n < 50) (hz : ¬ 0 < n) (hk : o.tmod 50 = (n : Int)) (w : World) :
    Calls Try.prog 9 #[.bool false, .int .u8 o] w fun e w' => e = .returned (.bool true) ∧ Nx w w' := by
  have HA := Lib.hid hA
  have HR := Lib.hid hR
  obtain ⟨i0, hi, hz0, hz1, hz2⟩ := info_parts infoIns
  have N0 := Lib.hid (Nx.one w (.cells #[.int .i64 0, .int .i64 0, .int .i64 0, .int .i64 0, .int .i64 15, .int .i64 0, .int .i64 0, .int .i64 ((2 : Int) + n)] 53))
  have O0 := Lib.hid (World.ownsRow_lit (base := w.heap.size) (e := 53) (size := 4) w #[.int .i64 0, .int .i64 0, .int .i64 0, .int .i64 0, .int .i64 15, .int .i64 0, .int .i64 0, .int .i64 ((2 : Int) + n)] 2 (Nat.le_refl _) (by unfold maxLen; omega) rfl)
  clear hA hR
  go_enter Try.func9, Try.ntmps9
  go_wp2_with fail
  go_loopw [6, 18] (fun s i wr => ∃ j : Nat, j ≤ n ∧ i = .int .i64 j ∧ wr.ownsRow w.heap.size 53 4 s (2 + j) (ins (jmpPre n j)) ∧ Nx w wr) (fun _ i _ => n - (intOf i).toNat)
  case atStart => exact ⟨0, Nat.zero_le _, rfl, O0.out, N0.out⟩
  case round =>
    obtain ⟨j, hj, rfl, hown, hnx⟩ := hrel
    have HO := Lib.hid hown
    have HN := Lib.hid hnx
    have hsz := Lib.hid hnx.size
    clear hown hnx O0 N0
    by_cases hjn : j < n
    · exact absurd hjn (by omega)
    · obtain rfl : j = n := by omega
      have hji : ¬ (j : Int) < (j : Int) := by omega
      go_wp2_with (first | (at_builtin; refine wpList_append_own _ rfl (.tmp 26) (.tmp 28) 22 rfl w.heap.size 53 i0 (.agg #[.int .i64 0, .int .i64 0, .int .i64 0, .int .i64 0]) 4 32 Try.underlying22 hi hz0 hz1 hz2 rfl (by decide) _ _ _ rfl (World.ownsRow.alloc HO.out _) ⟨wr.heap.size, 0, none⟩ 1 1 [.int .i64 16, .int .i64 0, .int .i64 0, .int .i64 0] rfl rfl (fun j u hj => by rw [Addr.add_lit, Nat.zero_add]; exact (bx_new wr 53 [.int .i64 16, .int .i64 0, .int .i64 0, .int .i64 0]).cell j hj) (fun u hu => by simp at hu; rcases hu with rfl | rfl | rfl | rfl <;> rfl) (by unfold maxLen; omega) (by omega) (by have := hsz.out; simp; omega) ?_))
      intro v' w' ho hg hnn
      have N1 := Lib.hid (show Nx w w' from Below.grown (HN.out.alloc _) hg (HN.out.alloc _).size (fun g e => own_ge HO.out e))
      obtain ⟨g, cap, rfl, hrd⟩ := own_code ho hnn
      have RD := Lib.hid hrd
      clear ho hg HO HN hnn hrd
      go_wp2_with fail
      have N3 := Lib.hid ((N1.out.alloc (.cells #[.bool false] 4)).alloc (.cells #[.bool false] 4))
      have K3 := Lib.hid (show Nx w' ((w'.alloc (.cells #[.bool false] 4)).alloc (.cells #[.bool false] 4)) from (Nx.one _ _).alloc _)
      have XI := Lib.hid ((bx_new w' 4 [.bool false]).nx (Nx.one _ (.cells #[.bool false] 4)))
      have XQ := Lib.hid (bx_new (w'.alloc (.cells #[.bool false] 4)) 4 [.bool false])
      rw [show (w'.alloc (.cells #[.bool false] 4)).heap.size = w'.heap.size + 1 by simp] at XQ
      generalize (w'.alloc (.cells #[.bool false] 4)).alloc (.cells #[.bool false] 4) = W at *
      refine (HR.out (jmpCode j) [false] [false] [] [] _ _ _ _ _ cap 1 _ 1 _ 0 0 0 0 W (by simp [jmpCode]; omega) (by decide) (by decide) (by decide) (by decide) (RD.out.nx K3.out) (fun e => by cases e) (im_bx XI.out) (im_bx XQ.out) (im_nil W) (im_nil W)).mono ?_
      intro e w5 hp
      obtain ⟨B1, B2, B3, d1, d2, d3, rfl, i1, i2, i3, hn5⟩ := runPost_cells hp
      obtain ⟨r, hr, r1, r2, r3, r4, r5, r6⟩ := jmp_facts j hn false
      rw [hr] at i1 ⊢
      have r1' : r.1.q = [false] := by rw [r1]; simp [hz]
      have r3' : r.2 = 3 + j := by rw [r3]; rfl
      rw [r1'] at i1
      rw [r1', r2, r3', r4, r5, r6]
      obtain ⟨ad, e0, g0⟩ := i1.1 0 false rfl
      subst e0
      have N5 := Lib.hid (N3.out.trans hn5)
      have G0 := Lib.hid g0
      clear hp i1 i2 i3 hn5 g0 hr r1 r2 r3 r4 r5 r6 r1' r3' K3 RD
      simp only [List.length_cons, List.length_nil, Nat.zero_add]
      go_wp2_with fail
      have k5 := Lib.hid (Nx.one w5 (.cells #[.slice (some ad) 1 d1, .slice B2 0 d2, .slice B3 0 d3, .int .i64 ((3 : Int) + j), .int .i64 ((2 : Int) + j), .int .i64 0] 30))
      have HY := Lib.hid (bx_new w5 30 [.slice (some ad) 1 d1, .slice B2 0 d2, .slice B3 0 d3, .int .i64 ((3 : Int) + j), .int .i64 ((2 : Int) + j), .int .i64 0])
      generalize w5.alloc (.cells #[.slice (some ad) 1 d1, .slice B2 0 d2, .slice B3 0 d3, .int .i64 ((3 : Int) + j), .int .i64 ((2 : Int) + j), .int .i64 0] 30) = W6 at *
      refine (HA.out W6).mono ?_
      rintro e w7 ⟨rfl, hn7⟩
      have k7 := Lib.hid (k5.out.trans hn7)
      have N7 := Lib.hid (N5.out.trans k7.out)
      have u0 := (HY.out.nx hn7).cell 0 rfl
      have u3 := (HY.out.nx hn7).cell 3 rfl
      have u4 := (HY.out.nx hn7).cell 4 rfl
      have u5 := (HY.out.nx hn7).cell 5 rfl
      have c0 := k7.out.cell G0.out
      rw [Addr.add_zero'] at c0
      clear hn7 k5 HY
      have hz2 : ¬ (0 : Int) < (j : Int) := by omega
      go_wp2_with fail
      go_ret
      exact ⟨rfl, N7.out⟩
theorem law6_jump (hR : RunOk) (hA : AlOk) (v : Bool) (o : Int) (h0 : 0 ≤ o) (w : World) :
    Calls Try.prog 9 #[.bool v, .int .u8 o] w fun e w' => e = .returned (.bool true) ∧ Nx w w' := by
  have h1 := Int.tmod_nonneg 50 h0
  have h2 := Int.tmod_lt_of_pos o (show (0 : Int) < 50 by decide)
  obtain ⟨n, hk⟩ : ∃ n : Nat, o.tmod 50 = (n : Int) := ⟨(o.tmod 50).toNat, by omega⟩
  cases v with
  | true => exact law6_jump_t hR hA o n (by omega) hk w
  | false =>
    by_cases hz : 0 < n
    · exact law6_jump_fp hR hA o n (by omega) hz hk w
    · exact law6_jump_fz hR hA o n (by omega) hz hk w
end Go.Proofs.Ytmijfipggggdfaa
