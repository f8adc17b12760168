/- The walk of the law on the branch stack, andp. Condition: one bit to sixty. -/
import Derived.Test.YtdpccnpaajhliaaIL8m
namespace Go.Proofs.Ytdpccnpaajhliaa
open Go.RowKit

def ps8f (W : World) (u v r : Value) (rb : Nat) (ad' : Addr) (Ac : Option Addr) (NL cap d2 : Nat) (j : Nat) (f : Nat → Value) (w : World) : Prop := match j with
  | 0 => f 0 = .bool true
  | 1 => f 1 = .bool true
  | 2 => f 2 = .pointer (some ⟨rb, 5, none⟩)
  | 3 => f 3 = .int .i64 0
  | 4 => f 4 = .bool true
  | 5 => f 5 = .bool true
  | 6 => f 6 = .bool true
  | 7 => f 7 = .pointer (some ⟨rb, 3, none⟩)
  | 8 => f 8 = .int .i64 (NL : Int)
  | 9 => f 9 = .slice Ac NL cap
  | 10 => f 10 = .int .i64 (NL : Int)
  | 11 => f 11 = .bool true
  | 12 => f 12 = .bool true
  | 13 => f 13 = .bool true
  | 14 => f 14 = .pointer (some ⟨rb, 0, none⟩)
  | 15 => f 15 = .pointer (some ⟨rb, 1, none⟩)
  | 16 => f 16 = .slice (some ad') 1 d2
  | 17 => f 17 = .int .i64 1
  | 18 => f 18 = .bool true
  | 19 => f 19 = .bool true
  | 20 => f 20 = .bool true
  | 21 => f 21 = .pointer (some ⟨rb, 0, none⟩)
  | 22 => f 22 = .pointer (some ⟨rb, 1, none⟩)
  | 23 => f 23 = .slice (some ad') 1 d2
  | 24 => f 24 = (.pointer (some ad'))
  | 25 => f 25 = r
  | 26 => ∃ mm n, f 26 = .map (some mm) ∧ W.heap.size ≤ mm ∧ BM u v w mm n
  | 27 => f 27 = u
  | 28 => ∃ mm n, f 26 = .map (some mm) ∧ BM u v w mm n ∧ bHas false n
  | 29 => f 29 = v
  | 30 => ∃ mm n, f 26 = .map (some mm) ∧ BM u v w mm n ∧ bHas true n
  | 31 => ∃ mm n, f 31 = .map (some mm) ∧ BM u v w mm n ∧ bHas false n ∧ bHas true n
  | 32 => f 32 = .bool false
  | 33 => f 33 = r
  | 34 => f 34 = .bool true
  | 35 => f 35 = .bool true
  | 36 => f 36 = .bool true
  | _ => False
theorem ps8f_v {W : World} {u v r : Value} {rb : Nat} {ad' : Addr} {Ac : Option Addr} {NL cap d2 j : Nat} {f f' : Nat → Value} {w : World} (hs : ∀ k ∈ (if j = 28 ∨ j = 30 then [26] else []), f k = f' k) (e : f j = f' j) (hp : ps8f W u v r rb ad' Ac NL cap d2 j f w) : ps8f W u v r rb ad' Ac NL cap d2 j f' w := by
  unfold ps8f at hp ⊢
  split at hp
  case h_29 => rw [← hs 26 (by simp)]; exact hp
  case h_31 => rw [← hs 26 (by simp)]; exact hp
  all_goals first | exact hp | (rw [← e]; exact hp)
theorem ps8f_k {W : World} {u v r : Value} {rb : Nat} {ad' : Addr} {Ac : Option Addr} {NL cap d2 j : Nat} {f : Nat → Value} {w w' : World} (k : BRel W u v w w') (hp : ps8f W u v r rb ad' Ac NL cap d2 j f w) : ps8f W u v r rb ad' Ac NL cap d2 j f w' := by
  unfold ps8f at hp ⊢
  split at hp
  case h_27 => obtain ⟨mm, n, e, hm, hb⟩ := hp; obtain ⟨n2, hb2, _⟩ := k.2 mm n hb; exact ⟨mm, n2, e, hm, hb2⟩
  case h_29 => obtain ⟨mm, n, e, hb, h1⟩ := hp; obtain ⟨n2, hb2, hh⟩ := k.2 mm n hb; exact ⟨mm, n2, e, hb2, hh _ h1⟩
  case h_31 => obtain ⟨mm, n, e, hb, h1⟩ := hp; obtain ⟨n2, hb2, hh⟩ := k.2 mm n hb; exact ⟨mm, n2, e, hb2, hh _ h1⟩
  case h_32 => obtain ⟨mm, n, e, hb, h1, h2⟩ := hp; obtain ⟨n2, hb2, hh⟩ := k.2 mm n hb; exact ⟨mm, n2, e, hb2, hh _ h1, hh _ h2⟩
  all_goals exact hp

set_option maxHeartbeats 64000000 in
set_option maxRecDepth 100000 in
theorem law6_branch_f (Ai : Option Addr) (ci : Nat) (m : Nat) (hm : m ≤ 59) (l : List Bool) (w : World) (hi : Im w Ai (m + 1) ci l) :
    Calls Try.prog 3 #[.slice Ai (m + 1) ci, .bool false] w fun e w' => e = .returned (.bool true) ∧ Nx w w' := by
  obtain ⟨i0, hi0, hz0, hz1, hz2⟩ := info_parts infoIns
  have HI := Lib.hid hi
  have HLL := Lib.hid hi.2.1
  have HA := Lib.hid (show ∀ w' : World, Calls Try.prog 5 #[] w' (fun e w2 => e = .returned (.bool true) ∧ Nx w' w2) from al_ok)
  obtain ⟨n, hn⟩ : ∃ n, n = m + 1 := ⟨_, rfl⟩
  have HN := Lib.hid hn
  rw [← hn]
  have h1 : ¬ (60 : Int) < (n : Int) := by omega
  have h0 : ¬ n = 0 := by omega
  have hn60 : n ≤ 60 := by omega
  clear hi hn
  go_enter Try.func3, Try.ntmps3
  go_wp2_with fail
  go_loopw [5, 6, 7, 22] (fun s al sm i wr => ∃ j : Nat, j ≤ n ∧ i = .int .i64 j ∧ wr.ownsRow w.heap.size 28 4 s (brP j).length (ins (brP j)) ∧ al = .bool ((l.take j).all id) ∧ sm = .bool ((l.take j).any id) ∧ Nx w wr) (fun _ _ _ i _ => n - (intOf i).toNat)
  case atStart => exact ⟨0, Nat.zero_le _, rfl, World.ownsRow_nil _ _ _ _, rfl, rfl, Nx.refl w⟩
  case round =>
    obtain ⟨j, hj, rfl, hown, rfl, rfl, hnx⟩ := hrel
    have HO := Lib.hid hown
    have HX := Lib.hid hnx
    have hpl : (brP j).length ≤ 200 := by cases j with
      | zero => simp [brP]
      | succ j => rw [brP_len]; omega
    have hsz := Lib.hid (show w.heap.size ≤ wr.heap.size ∧ (brP j).length ≤ 200 from ⟨hnx.size, hpl⟩)
    clear hown hnx
    by_cases hjn : j < n
    · have hji : (j : Int) < (n : Int) := by omega
      obtain ⟨b, hb⟩ := at_some l j (by have := HLL.out; have := HN.out; omega)
      obtain ⟨ad, hA, hc⟩ := (HI.out.nx HX.out).1 j b hb
      subst hA
      obtain ⟨aa, haa⟩ : ∃ aa, (l.take j).all id = aa := ⟨_, rfl⟩
      obtain ⟨ss, hss⟩ : ∃ ss, (l.take j).any id = ss := ⟨_, rfl⟩
      have HS := Lib.hid (show (l.take (j + 1)).all id = (aa && b) ∧ (l.take (j + 1)).any id = (ss || b) from by rw [← haa, ← hss]; exact all_snoc l j b hb)
      rw [haa, hss]
      clear hb haa hss
      cases aa <;> cases ss
      all_goals
        by_cases hz : j = 0
        · have hz0' : ¬ (0 : Int) < (j : Int) := by omega
          have HZ := Lib.hid hz
          clear hz
          go_wp2_with (first | (at_builtin; refine wpList_append_own _ rfl (.tmp 33) (.tmp 37) 24 rfl w.heap.size 28 i0 (.agg #[.int .i64 0, .int .i64 0, .int .i64 0, .int .i64 0]) 4 32 Try.underlying24 hi0 hz0 hz1 hz2 rfl (by decide) _ _ _ rfl (World.ownsRow.alloc HO.out _) ⟨wr.heap.size, 0, none⟩ 1 1 [.int .i64 0, .int .i64 0, .int .i64 (j : Int), .int .i64 0] rfl rfl (fun jj u hj => by rw [Addr.add_lit, Nat.zero_add]; exact (bx_new wr 28 [.int .i64 0, .int .i64 0, .int .i64 (j : Int), .int .i64 0]).cell jj hj) (fun u hu => by simp at hu; rcases hu with rfl | rfl | rfl | rfl <;> rfl) (by unfold maxLen; omega) (by omega) (by have := hsz.out; simp; omega) ?_))
          intro v' w' ho hg _
          have N1 := Lib.hid (show Nx w w' from Below.grown (HX.out.alloc _) hg (HX.out.alloc _).size (fun g e => own_ge HO.out e))
          have O1 := Lib.hid (show w'.ownsRow w.heap.size 28 4 v' (brP (j + 1)).length (ins (brP (j + 1))) from by have hz := HZ.out; subst hz; exact ho)
          clear ho hg HO HX hc
          go_wp2_with fail
          go_roundw
          case rel => exact ⟨j + 1, by omega, by go_num, O1.out, by simp [HS.out.1], by simp [HS.out.2], N1.out⟩
          case measure => simp [intOf]; omega
        · have hz0' : (0 : Int) < (j : Int) := by omega
          have HZ := Lib.hid hz
          clear hz
          go_wp2_with (first | (at_builtin; refine wpList_append_own _ rfl (.tmp 29) (.tmp 31) 24 rfl w.heap.size 28 i0 (.agg #[.int .i64 0, .int .i64 0, .int .i64 0, .int .i64 0]) 4 32 Try.underlying24 hi0 hz0 hz1 hz2 rfl (by decide) _ _ _ rfl (World.ownsRow.alloc HO.out _) ⟨wr.heap.size, 0, none⟩ 1 1 [.int .i64 8, .int .i64 0, .int .i64 0, .int .i64 0] rfl rfl (fun jj u hj => by rw [Addr.add_lit, Nat.zero_add]; exact (bx_new wr 28 [.int .i64 8, .int .i64 0, .int .i64 0, .int .i64 0]).cell jj hj) (fun u hu => by simp at hu; rcases hu with rfl | rfl | rfl | rfl <;> rfl) (by unfold maxLen; omega) (by omega) (by have := hsz.out; simp; omega) ?_))
          intro v' w' ho hg _
          have N1 := Lib.hid (show Nx w w' from Below.grown (HX.out.alloc _) hg (HX.out.alloc _).size (fun g e => own_ge HO.out e))
          have O1 := Lib.hid ho
          have hsz := Lib.hid (show w.heap.size ≤ w'.heap.size ∧ (brP j).length ≤ 200 from ⟨N1.out.size, hpl⟩)
          clear ho hg HO HX hc
          go_wp2_with (first | (at_builtin; refine wpList_append_own _ rfl (.tmp 33) (.tmp 37) 24 rfl w.heap.size 28 i0 (.agg #[.int .i64 0, .int .i64 0, .int .i64 0, .int .i64 0]) 4 32 Try.underlying24 hi0 hz0 hz1 hz2 rfl (by decide) _ _ _ rfl (World.ownsRow.alloc O1.out _) ⟨w'.heap.size, 0, none⟩ 1 1 [.int .i64 0, .int .i64 0, .int .i64 (j : Int), .int .i64 0] rfl rfl (fun jj u hj => by rw [Addr.add_lit, Nat.zero_add]; exact (bx_new w' 28 [.int .i64 0, .int .i64 0, .int .i64 (j : Int), .int .i64 0]).cell jj hj) (fun u hu => by simp at hu; rcases hu with rfl | rfl | rfl | rfl <;> rfl) (by unfold maxLen; omega) (by omega) (by have := hsz.out; simp; omega) ?_))
          intro v2 w2 ho hg _
          have N2 := Lib.hid (show Nx w w2 from Below.grown (N1.out.alloc _) hg (N1.out.alloc _).size (fun g e => own_ge O1.out e))
          have O2 := Lib.hid (show w2.ownsRow w.heap.size 28 4 v2 (brP (j + 1)).length (ins (brP (j + 1))) from by
            obtain ⟨j', rfl⟩ : ∃ j', j = j' + 1 := ⟨j - 1, by have := HZ.out; omega⟩
            rw [brP_succ, brP_len, List.append_assoc, show 2 * (j' + 1) + 1 = 2 * j' + 1 + 1 + 1 by omega]
            rw [brP_len] at ho
            exact ho)
          clear ho hg O1 N1
          go_wp2_with fail
          go_roundw
          case rel => exact ⟨j + 1, by omega, by go_num, O2.out, by simp [HS.out.1], by simp [HS.out.2], N2.out⟩
          case measure => simp [intOf]; omega
    · obtain rfl : j = n := by omega
      have hji : ¬ (j : Int) < (j : Int) := by omega
      obtain rfl : j = m + 1 := HN.out
      have HO2 := Lib.hid (brP0 9 HO.out)
      have HX2 := Lib.hid (show Nx w wr from HX.out)
      have htk : l.take (m + 1) = l := List.take_of_length_le (by rw [HLL.out]; exact Nat.le_refl _)
      rw [htk]
      clear hsz HO HX hpl
      go_wp2_with fail
      go_loopw [5, 51] (fun s i wr => ∃ j : Nat, j ≤ m ∧ i = .int .i64 j ∧ wr.ownsRow w.heap.size 28 4 s (2 * m + 1 + j) (ins (brP (m + 1) ++ List.replicate j ⟨9, 0, 0, 0⟩)) ∧ Nx w wr) (fun _ i _ => m - (intOf i).toNat)
      case atStart => exact ⟨0, Nat.zero_le _, rfl, HO2.out, HX2.out⟩
      case round =>
        obtain ⟨j, hj, rfl, hown, hnx⟩ := hrel
        have HO := Lib.hid hown
        have HX := Lib.hid hnx
        have hsz := Lib.hid (show w.heap.size ≤ wr.heap.size ∧ 2 * m + 1 + j ≤ 200 from ⟨hnx.size, by omega⟩)
        clear hown hnx HO2 HX2
        by_cases hjm : j < m
        · have hji : (j : Int) < (m : Int) := by omega
          have em : (Instr.makeMap 29 none).run Try.prog wr = .ok (.map (some wr.heap.size)) (wr.alloc (.map #[] 0)) := rfl
          have e1 := mapB_step 29 3 (by kernel_rfl) wr #[] 0 false (.int .i64 9) rfl
          have e2 := mapB_step 29 3 (by kernel_rfl) wr #[{ key := .bool false, val := .int .i64 9, born := 0 }] 1 true (.int .i64 10) rfl
          have e3 := mapB_look 29 3 (by kernel_rfl) wr #[{ key := .bool false, val := .int .i64 9, born := 0 }, { key := .bool true, val := .int .i64 10, born := 1 }] 2 false 0 (.int .i64 9) (.int .i64 0) rfl rfl
          simp only [Nat.zero_add, Nat.reduceAdd, List.push_toArray, List.nil_append, List.cons_append] at e1 e2
          have XB := Lib.hid (show Bx ((wr.alloc (.map #[{ key := .bool false, val := .int .i64 9, born := 0 }, { key := .bool true, val := .int .i64 10, born := 1 }] 2)).alloc (.cells #[.int .i64 9, .int .i64 0, .int .i64 0, .int .i64 0] 28)) (wr.heap.size + 1) 28 [.int .i64 9, .int .i64 0, .int .i64 0, .int .i64 0] from by
            have := bx_new (wr.alloc (.map #[{ key := .bool false, val := .int .i64 9, born := 0 }, { key := .bool true, val := .int .i64 10, born := 1 }] 2)) 28 [.int .i64 9, .int .i64 0, .int .i64 0, .int .i64 0]
            rwa [show (wr.alloc (.map #[{ key := .bool false, val := .int .i64 9, born := 0 }, { key := .bool true, val := .int .i64 10, born := 1 }] 2)).heap.size = wr.heap.size + 1 by simp] at this)
          go_wp2_with (first | (at_builtin; refine wpList_append_own _ rfl (.tmp 53) (.tmp 59) 24 rfl w.heap.size 28 i0 (.agg #[.int .i64 0, .int .i64 0, .int .i64 0, .int .i64 0]) 4 32 Try.underlying24 hi0 hz0 hz1 hz2 rfl (by decide) _ _ _ rfl (World.ownsRow.alloc (World.ownsRow.alloc HO.out _) _) ⟨wr.heap.size + 1, 0, none⟩ 1 1 [.int .i64 9, .int .i64 0, .int .i64 0, .int .i64 0] rfl rfl (fun jj u hj => by rw [Addr.add_lit, Nat.zero_add]; exact XB.out.cell jj hj) (fun u hu => by simp at hu; rcases hu with rfl | rfl | rfl | rfl <;> rfl) (by unfold maxLen; omega) (by omega) (by have := hsz.out; simp; omega) ?_))
          intro v' w' ho hg _
          have N1 := Lib.hid (show Nx w w' from Below.grown ((HX.out.alloc _).alloc _) hg ((HX.out.alloc _).alloc _).size (fun g e => own_ge HO.out e))
          have O1 := Lib.hid (show w'.ownsRow w.heap.size 28 4 v' (2 * m + 1 + (j + 1)) (ins (brP (m + 1) ++ List.replicate (j + 1) ⟨9, 0, 0, 0⟩)) from by rw [brO_succ]; exact ho)
          clear ho hg HO HX em e1 e2 e3 XB
          go_wp2_with fail
          go_roundw
          case rel => exact ⟨j + 1, by omega, by go_num, O1.out, N1.out⟩
          case measure => simp [intOf]; omega
        · obtain rfl : j = m := by omega
          have hji : ¬ (j : Int) < (j : Int) := by omega
          go_wp2_with (first | (at_builtin; refine wpList_append_own _ rfl (.tmp 62) (.tmp 66) 24 rfl w.heap.size 28 i0 (.agg #[.int .i64 0, .int .i64 0, .int .i64 0, .int .i64 0]) 4 32 Try.underlying24 hi0 hz0 hz1 hz2 rfl (by decide) _ _ _ rfl (World.ownsRow.alloc HO.out _) ⟨wr.heap.size, 0, none⟩ 2 2 [.int .i64 11, .int .i64 2, .int .i64 0, .int .i64 0, .int .i64 16, .int .i64 0, .int .i64 0, .int .i64 0] rfl rfl (fun jj u hj => by rw [Addr.add_lit, Nat.zero_add]; exact (bx_new wr 28 [.int .i64 11, .int .i64 2, .int .i64 0, .int .i64 0, .int .i64 16, .int .i64 0, .int .i64 0, .int .i64 0]).cell jj hj) (fun u hu => by simp at hu; rcases hu with rfl | rfl | rfl | rfl | rfl | rfl | rfl | rfl <;> rfl) (by unfold maxLen; omega) (by omega) (by have := hsz.out; simp; omega) ?_))
          intro v' w' ho hg hnn
          have N1 := Lib.hid (show Nx w w' from Below.grown (HX.out.alloc _) hg (HX.out.alloc _).size (fun g e => own_ge HO.out e))
          have O1 := Lib.hid (show OwC w' w.heap.size v' (brCode j 9) from by
            unfold OwC
            rw [brCode_ins, brCode_len]
            have e : 2 * j + 1 + j + 2 = 3 * j + 3 := by omega
            rw [e] at ho
            exact ho)
          obtain ⟨Ac, cap, rfl, hrd, _, hcn⟩ := O1.out.rd
          have RD := Lib.hid hrd
          have HCN := Lib.hid hcn
          clear ho hg HO HX hnn hrd hcn
          have K2 := Lib.hid (Nx.one w' (.cells #[.bool false] 4))
          have XQ := Lib.hid (bx_new w' 4 [.bool false])
          go_wp2_with fail
          have XI := Lib.hid (fun (q : Nx w (w'.alloc (.cells #[.bool false] 4))) => HI.out.nx q)
          have N2 := Lib.hid (N1.out.alloc (.cells #[.bool false] 4))
          have HLN := Lib.hid (brCode_len j 9)
          generalize w'.alloc (.cells #[.bool false] 4) = W at *
          have RN := vmRunOk (brCode j 9) l [] [false] [] Ac Ai none (some ⟨w'.heap.size, 0, none⟩) none cap (j + 1) ci 0 0 1 1 0 0 W (by rw [brCode_len]; omega) (by omega) (by decide) (by decide) (by decide) (RD.out.nx K2.out) HCN.out (XI.out N2.out) (im_nil' W) (im_bx' XQ.out) (im_nil' W)
          refine RN.mono ?_
          intro e w5 hp
          obtain ⟨B1, B2, B3, d1, d2, d3, rfl, i1, i2, i3, hn5⟩ := runPost_cells hp
          rw [show run (brCode j 9) l (mc0 [] [false] []) 0 = (⟨[], [brF false l], [], 3 * j + 2, brF false l, [], true, 0⟩, (brCode j 9).length) from br_run (o := false) HLL.out hm] at i2 ⊢
          have hNL : (brCode j 9).length ≤ 200 := by rw [brCode_len]; omega
          obtain ⟨ad', e0, g0⟩ := i2.1 0 (brF false l) rfl
          subst e0
          have N5 := Lib.hid (N2.out.trans hn5)
          have G0 := Lib.hid g0
          clear hp i1 i2 i3 hn5 g0 RD K2 XQ XI HCN RN
          generalize (brCode j 9).length = NL at *
          have hbf : l.all id = brF false l := rfl
          simp only [List.length_cons, List.length_nil, Nat.zero_add]
          go_wp2_with fail
          have k5 := Lib.hid (Nx.one w5 (.cells #[.slice B1 0 d1, .slice (some ad') 1 d2, .slice B3 0 d3, .int .i64 (NL : Int), .int .i64 (3 * (j : Int) + 2), .int .i64 0] 34))
          have HY := Lib.hid (bx_new w5 34 [.slice B1 0 d1, .slice (some ad') 1 d2, .slice B3 0 d3, .int .i64 (NL : Int), .int .i64 (3 * (j : Int) + 2), .int .i64 0])
          generalize hrb : w5.heap.size = rb at *
          generalize w5.alloc (.cells #[.slice B1 0 d1, .slice (some ad') 1 d2, .slice B3 0 d3, .int .i64 (NL : Int), .int .i64 (3 * (j : Int) + 2), .int .i64 0] 34) = W6 at *
          clear hrb
          have FF := Lib.hid (fun w' (q : Nx W6 w') => (show w'.cell? ⟨rb, 0, none⟩ = some (.slice B1 0 d1) ∧ w'.cell? ⟨rb, 1, none⟩ = some (.slice (some ad') 1 d2) ∧ w'.cell? ⟨rb, 3, none⟩ = some (.int .i64 (NL : Int)) ∧ w'.cell? ⟨rb, 5, none⟩ = some (.int .i64 0) ∧ w'.cell? ad' = some (.bool (brF false l)) from
            ⟨(HY.out.nx q).cell 0 rfl, (HY.out.nx q).cell 1 rfl, (HY.out.nx q).cell 3 rfl, (HY.out.nx q).cell 5 rfl, by have c0 := (k5.out.trans q).cell G0.out; rw [Addr.add_zero'] at c0; exact c0⟩))
          refine wp_region_rel (by kernel_rfl) (by kernel_rfl) (by kernel_rfl) (fun j => if j = 28 ∨ j = 30 then [26] else []) (by kernel_rfl) (BRel W6 (.bool (brF false l)) (.bool (l.any id))) (fun _ _ h => BRel.nx h) (fun _ _ _ h k => BRel.trans h k) (ps8f W6 (.bool (brF false l)) (.bool (l.any id)) (.bool (brF false l)) rb ad' Ac NL cap d2) ?_ ?_ ?_ ?_
          · intro j f f' u e hs hp
            exact ps8f_v hs e hp
          · intro j f u u' k hp
            exact ps8f_k k hp
          · intro i o ho a1 w1 K hF hR hE hK
            have hsz : a1.tmps.size = 107 := hF.2.1
            have f10 : a1.tmps[10]?.getD undef = .pointer (some ⟨rb, 0, none⟩) := tmp_of (hF.2.2 10 (by kernel_rfl))
            have f5 : a1.tmps[5]?.getD undef = .slice Ac NL cap := tmp_of (hF.2.2 5 (by kernel_rfl))
            have f1 : a1.tmps[1]?.getD undef = .bool false := tmp_of (hF.2.2 1 (by kernel_rfl))
            have f6 : a1.tmps[6]?.getD undef = .bool (brF false l) := tmp_of (hF.2.2 6 (by kernel_rfl))
            have f7 : a1.tmps[7]?.getD undef = .bool (l.any id) := tmp_of (hF.2.2 7 (by kernel_rfl))
            obtain ⟨z0, z1, z3, z5, z6⟩ := FF.out w1 (hR.1 (Nx.refl _))
            have HRN := Lib.hid (hR.1 (Nx.refl _))
            have HEE := Lib.hid hE
            rcases i with _ | _ | _ | _ | _ | _ | _ | _ | _ | _ | _ | _ | _ | _ | _ | _ | _ | _ | _ | _ | _ | _ | _ | _ | _ | _ | _ | _ | _ | _ | _ | _ | _ | _ | _ | _ | _ | i
            · obtain rfl := Option.some.inj ho
              refine Or.inl ⟨wanted_none rfl, ?_⟩
              have hR0 := Lib.hid hR
              have hK0 := Lib.hid hK
              clear hK hE hF hR hsz HEE
              unfold Oper.wp
              go_simp
              refine (HA.out _).mono ?_
              rintro e v6 ⟨rfl, q6⟩
              exact hK0.out (.bool true) _ (BRel.nx q6) (upd_same _ _ _) (fun h => by cases h)
            · obtain rfl := Option.some.inj ho
              refine Or.inl ⟨wanted_none rfl, ?_⟩
              have e73 : a1.tmps[73]?.getD undef = .bool true := tmp_of (show a1.tmps.getD 73 undef = _ from hE ⟨0, .data⟩ (by simp) rfl)
              have hK0 := Lib.hid hK
              clear hK hE hF hR hsz HEE
              unfold Oper.wp
              go_simp
              exact hK0.out (.bool true) _ (BRel.nx (Nx.refl _)) (upd_same _ _ _) (fun h => by cases h)
            · obtain rfl := Option.some.inj ho
              refine Or.inl ⟨(wanted_of (b := true) rfl rfl (by rw [hsz]; decide) (hE ⟨1, .guard⟩ (by simp) rfl)).trans (by rfl), ?_⟩
              have hK0 := Lib.hid hK
              clear hK hE hF hR hsz HEE
              unfold Oper.wp
              go_simp
              exact hK0.out (.pointer (some ⟨rb, 5, none⟩)) _ (BRel.nx (Nx.refl _)) (upd_same _ _ _) (fun h => by cases h)
            · obtain rfl := Option.some.inj ho
              refine Or.inl ⟨(wanted_of (b := true) rfl rfl (by rw [hsz]; decide) (hE ⟨1, .guard⟩ (by simp) rfl)).trans (by rfl), ?_⟩
              have e75 : a1.tmps[75]?.getD undef = .pointer (some ⟨rb, 5, none⟩) := tmp_of (show a1.tmps.getD 75 undef = _ from hE ⟨2, .data⟩ (by simp) rfl)
              have hK0 := Lib.hid hK
              clear hK hE hF hR hsz HEE
              unfold Oper.wp
              go_simp
              exact hK0.out (.int .i64 0) _ (BRel.nx (Nx.refl _)) (upd_same _ _ _) (fun h => by cases h)
            · obtain rfl := Option.some.inj ho
              refine Or.inl ⟨(wanted_of (b := true) rfl rfl (by rw [hsz]; decide) (hE ⟨1, .guard⟩ (by simp) rfl)).trans (by rfl), ?_⟩
              have e76 : a1.tmps[76]?.getD undef = .int .i64 0 := tmp_of (show a1.tmps.getD 76 undef = _ from hE ⟨3, .data⟩ (by simp) rfl)
              have hK0 := Lib.hid hK
              clear hK hE hF hR hsz HEE
              unfold Oper.wp
              go_simp
              exact hK0.out (.bool true) _ (BRel.nx (Nx.refl _)) (upd_same _ _ _) (fun h => by cases h)
            · obtain rfl := Option.some.inj ho
              refine Or.inl ⟨wanted_none rfl, ?_⟩
              have e74 : a1.tmps[74]?.getD undef = .bool true := tmp_of (show a1.tmps.getD 74 undef = _ from hE ⟨1, .data⟩ (by simp) rfl)
              have e77 : a1.tmps[77]?.getD undef = .bool true := tmp_of (show a1.tmps.getD 77 undef = _ from hE ⟨4, .data⟩ (by simp) rfl)
              have hK0 := Lib.hid hK
              clear hK hE hF hR hsz HEE
              unfold Oper.wp
              go_simp
              exact hK0.out (.bool true) _ (BRel.nx (Nx.refl _)) (upd_same _ _ _) (fun h => by cases h)
            · obtain rfl := Option.some.inj ho
              refine Or.inl ⟨wanted_none rfl, ?_⟩
              have e78 : a1.tmps[78]?.getD undef = .bool true := tmp_of (show a1.tmps.getD 78 undef = _ from hE ⟨5, .data⟩ (by simp) rfl)
              have hK0 := Lib.hid hK
              clear hK hE hF hR hsz HEE
              unfold Oper.wp
              go_simp
              exact hK0.out (.bool true) _ (BRel.nx (Nx.refl _)) (upd_same _ _ _) (fun h => by cases h)
            · obtain rfl := Option.some.inj ho
              refine Or.inl ⟨(wanted_of (b := true) rfl rfl (by rw [hsz]; decide) (hE ⟨6, .guard⟩ (by simp) rfl)).trans (by rfl), ?_⟩
              have hK0 := Lib.hid hK
              clear hK hE hF hR hsz HEE
              unfold Oper.wp
              go_simp
              exact hK0.out (.pointer (some ⟨rb, 3, none⟩)) _ (BRel.nx (Nx.refl _)) (upd_same _ _ _) (fun h => by cases h)
            · obtain rfl := Option.some.inj ho
              refine Or.inl ⟨(wanted_of (b := true) rfl rfl (by rw [hsz]; decide) (hE ⟨6, .guard⟩ (by simp) rfl)).trans (by rfl), ?_⟩
              have e80 : a1.tmps[80]?.getD undef = .pointer (some ⟨rb, 3, none⟩) := tmp_of (show a1.tmps.getD 80 undef = _ from hE ⟨7, .data⟩ (by simp) rfl)
              have hK0 := Lib.hid hK
              clear hK hE hF hR hsz HEE
              unfold Oper.wp
              go_simp
              exact hK0.out (.int .i64 (NL : Int)) _ (BRel.nx (Nx.refl _)) (upd_same _ _ _) (fun h => by cases h)
            · obtain rfl := Option.some.inj ho
              refine Or.inl ⟨(wanted_of (b := true) rfl rfl (by rw [hsz]; decide) (hE ⟨6, .guard⟩ (by simp) rfl)).trans (by rfl), ?_⟩
              have hK0 := Lib.hid hK
              clear hK hE hF hR hsz HEE
              unfold Oper.wp
              go_simp
              exact hK0.out (.slice Ac NL cap) _ (BRel.nx (Nx.refl _)) (upd_same _ _ _) (fun h => by cases h)
            · obtain rfl := Option.some.inj ho
              refine Or.inl ⟨(wanted_of (b := true) rfl rfl (by rw [hsz]; decide) (hE ⟨6, .guard⟩ (by simp) rfl)).trans (by rfl), ?_⟩
              have e82 : a1.tmps[82]?.getD undef = .slice Ac NL cap := tmp_of (show a1.tmps.getD 82 undef = _ from hE ⟨9, .data⟩ (by simp) rfl)
              have hK0 := Lib.hid hK
              clear hK hE hF hR hsz HEE
              unfold Oper.wp
              go_simp
              exact hK0.out (.int .i64 (NL : Int)) _ (BRel.nx (Nx.refl _)) (upd_same _ _ _) (fun h => by cases h)
            · obtain rfl := Option.some.inj ho
              refine Or.inl ⟨(wanted_of (b := true) rfl rfl (by rw [hsz]; decide) (hE ⟨6, .guard⟩ (by simp) rfl)).trans (by rfl), ?_⟩
              have e81 : a1.tmps[81]?.getD undef = .int .i64 (NL : Int) := tmp_of (show a1.tmps.getD 81 undef = _ from hE ⟨8, .data⟩ (by simp) rfl)
              have e83 : a1.tmps[83]?.getD undef = .int .i64 (NL : Int) := tmp_of (show a1.tmps.getD 83 undef = _ from hE ⟨10, .data⟩ (by simp) rfl)
              have hK0 := Lib.hid hK
              clear hK hE hF hR hsz HEE
              unfold Oper.wp
              go_simp
              exact hK0.out (.bool true) _ (BRel.nx (Nx.refl _)) (upd_same _ _ _) (fun h => by cases h)
            · obtain rfl := Option.some.inj ho
              refine Or.inl ⟨wanted_none rfl, ?_⟩
              have e79 : a1.tmps[79]?.getD undef = .bool true := tmp_of (show a1.tmps.getD 79 undef = _ from hE ⟨6, .data⟩ (by simp) rfl)
              have e84 : a1.tmps[84]?.getD undef = .bool true := tmp_of (show a1.tmps.getD 84 undef = _ from hE ⟨11, .data⟩ (by simp) rfl)
              have hK0 := Lib.hid hK
              clear hK hE hF hR hsz HEE
              unfold Oper.wp
              go_simp
              exact hK0.out (.bool true) _ (BRel.nx (Nx.refl _)) (upd_same _ _ _) (fun h => by cases h)
            · obtain rfl := Option.some.inj ho
              refine Or.inl ⟨wanted_none rfl, ?_⟩
              have e85 : a1.tmps[85]?.getD undef = .bool true := tmp_of (show a1.tmps.getD 85 undef = _ from hE ⟨12, .data⟩ (by simp) rfl)
              have hK0 := Lib.hid hK
              clear hK hE hF hR hsz HEE
              unfold Oper.wp
              go_simp
              exact hK0.out (.bool true) _ (BRel.nx (Nx.refl _)) (upd_same _ _ _) (fun h => by cases h)
            · obtain rfl := Option.some.inj ho
              refine Or.inl ⟨(wanted_of (b := true) rfl rfl (by rw [hsz]; decide) (hE ⟨13, .guard⟩ (by simp) rfl)).trans (by rfl), ?_⟩
              have hK0 := Lib.hid hK
              clear hK hE hF hR hsz HEE
              unfold Oper.wp
              go_simp
              exact hK0.out (.pointer (some ⟨rb, 0, none⟩)) _ (BRel.nx (Nx.refl _)) (upd_same _ _ _) (fun h => by cases h)
            · obtain rfl := Option.some.inj ho
              refine Or.inl ⟨(wanted_of (b := true) rfl rfl (by rw [hsz]; decide) (hE ⟨13, .guard⟩ (by simp) rfl)).trans (by rfl), ?_⟩
              have e87 : a1.tmps[87]?.getD undef = .pointer (some ⟨rb, 0, none⟩) := tmp_of (show a1.tmps.getD 87 undef = _ from hE ⟨14, .data⟩ (by simp) rfl)
              have hK0 := Lib.hid hK
              clear hK hE hF hR hsz HEE
              unfold Oper.wp
              go_simp
              exact hK0.out (.pointer (some ⟨rb, 1, none⟩)) _ (BRel.nx (Nx.refl _)) (upd_same _ _ _) (fun h => by cases h)
            · obtain rfl := Option.some.inj ho
              refine Or.inl ⟨(wanted_of (b := true) rfl rfl (by rw [hsz]; decide) (hE ⟨13, .guard⟩ (by simp) rfl)).trans (by rfl), ?_⟩
              have e88 : a1.tmps[88]?.getD undef = .pointer (some ⟨rb, 1, none⟩) := tmp_of (show a1.tmps.getD 88 undef = _ from hE ⟨15, .data⟩ (by simp) rfl)
              have hK0 := Lib.hid hK
              clear hK hE hF hR hsz HEE
              unfold Oper.wp
              go_simp
              exact hK0.out (.slice (some ad') 1 d2) _ (BRel.nx (Nx.refl _)) (upd_same _ _ _) (fun h => by cases h)
            · obtain rfl := Option.some.inj ho
              refine Or.inl ⟨(wanted_of (b := true) rfl rfl (by rw [hsz]; decide) (hE ⟨13, .guard⟩ (by simp) rfl)).trans (by rfl), ?_⟩
              have e89 : a1.tmps[89]?.getD undef = .slice (some ad') 1 d2 := tmp_of (show a1.tmps.getD 89 undef = _ from hE ⟨16, .data⟩ (by simp) rfl)
              have hK0 := Lib.hid hK
              clear hK hE hF hR hsz HEE
              unfold Oper.wp
              go_simp
              exact hK0.out (.int .i64 1) _ (BRel.nx (Nx.refl _)) (upd_same _ _ _) (fun h => by cases h)
            · obtain rfl := Option.some.inj ho
              refine Or.inl ⟨(wanted_of (b := true) rfl rfl (by rw [hsz]; decide) (hE ⟨13, .guard⟩ (by simp) rfl)).trans (by rfl), ?_⟩
              have e90 : a1.tmps[90]?.getD undef = .int .i64 1 := tmp_of (show a1.tmps.getD 90 undef = _ from hE ⟨17, .data⟩ (by simp) rfl)
              have hK0 := Lib.hid hK
              clear hK hE hF hR hsz HEE
              unfold Oper.wp
              go_simp
              exact hK0.out (.bool true) _ (BRel.nx (Nx.refl _)) (upd_same _ _ _) (fun h => by cases h)
            · obtain rfl := Option.some.inj ho
              refine Or.inl ⟨wanted_none rfl, ?_⟩
              have e86 : a1.tmps[86]?.getD undef = .bool true := tmp_of (show a1.tmps.getD 86 undef = _ from hE ⟨13, .data⟩ (by simp) rfl)
              have e91 : a1.tmps[91]?.getD undef = .bool true := tmp_of (show a1.tmps.getD 91 undef = _ from hE ⟨18, .data⟩ (by simp) rfl)
              have hK0 := Lib.hid hK
              clear hK hE hF hR hsz HEE
              unfold Oper.wp
              go_simp
              exact hK0.out (.bool true) _ (BRel.nx (Nx.refl _)) (upd_same _ _ _) (fun h => by cases h)
            · obtain rfl := Option.some.inj ho
              refine Or.inl ⟨wanted_none rfl, ?_⟩
              have e92 : a1.tmps[92]?.getD undef = .bool true := tmp_of (show a1.tmps.getD 92 undef = _ from hE ⟨19, .data⟩ (by simp) rfl)
              have hK0 := Lib.hid hK
              clear hK hE hF hR hsz HEE
              unfold Oper.wp
              go_simp
              exact hK0.out (.bool true) _ (BRel.nx (Nx.refl _)) (upd_same _ _ _) (fun h => by cases h)
            · obtain rfl := Option.some.inj ho
              refine Or.inl ⟨(wanted_of (b := true) rfl rfl (by rw [hsz]; decide) (hE ⟨20, .guard⟩ (by simp) rfl)).trans (by rfl), ?_⟩
              have hK0 := Lib.hid hK
              clear hK hE hF hR hsz HEE
              unfold Oper.wp
              go_simp
              exact hK0.out (.pointer (some ⟨rb, 0, none⟩)) _ (BRel.nx (Nx.refl _)) (upd_same _ _ _) (fun h => by cases h)
            · obtain rfl := Option.some.inj ho
              refine Or.inl ⟨(wanted_of (b := true) rfl rfl (by rw [hsz]; decide) (hE ⟨20, .guard⟩ (by simp) rfl)).trans (by rfl), ?_⟩
              have e94 : a1.tmps[94]?.getD undef = .pointer (some ⟨rb, 0, none⟩) := tmp_of (show a1.tmps.getD 94 undef = _ from hE ⟨21, .data⟩ (by simp) rfl)
              have hK0 := Lib.hid hK
              clear hK hE hF hR hsz HEE
              unfold Oper.wp
              go_simp
              exact hK0.out (.pointer (some ⟨rb, 1, none⟩)) _ (BRel.nx (Nx.refl _)) (upd_same _ _ _) (fun h => by cases h)
            · obtain rfl := Option.some.inj ho
              refine Or.inl ⟨(wanted_of (b := true) rfl rfl (by rw [hsz]; decide) (hE ⟨20, .guard⟩ (by simp) rfl)).trans (by rfl), ?_⟩
              have e95 : a1.tmps[95]?.getD undef = .pointer (some ⟨rb, 1, none⟩) := tmp_of (show a1.tmps.getD 95 undef = _ from hE ⟨22, .data⟩ (by simp) rfl)
              have hK0 := Lib.hid hK
              clear hK hE hF hR hsz HEE
              unfold Oper.wp
              go_simp
              exact hK0.out (.slice (some ad') 1 d2) _ (BRel.nx (Nx.refl _)) (upd_same _ _ _) (fun h => by cases h)
            · obtain rfl := Option.some.inj ho
              refine Or.inl ⟨(wanted_of (b := true) rfl rfl (by rw [hsz]; decide) (hE ⟨20, .guard⟩ (by simp) rfl)).trans (by rfl), ?_⟩
              have e96 : a1.tmps[96]?.getD undef = .slice (some ad') 1 d2 := tmp_of (show a1.tmps.getD 96 undef = _ from hE ⟨23, .data⟩ (by simp) rfl)
              have hK0 := Lib.hid hK
              clear hK hE hF hR hsz HEE
              unfold Oper.wp
              go_simp
              exact hK0.out ((.pointer (some ad'))) _ (BRel.nx (Nx.refl _)) (upd_same _ _ _) (fun h => by cases h)
            · obtain rfl := Option.some.inj ho
              refine Or.inl ⟨(wanted_of (b := true) rfl rfl (by rw [hsz]; decide) (hE ⟨20, .guard⟩ (by simp) rfl)).trans (by rfl), ?_⟩
              have e97 : a1.tmps[97]?.getD undef = (.pointer (some ad')) := tmp_of (show a1.tmps.getD 97 undef = _ from hE ⟨24, .data⟩ (by simp) rfl)
              have hK0 := Lib.hid hK
              clear hK hE hF hR hsz HEE
              unfold Oper.wp
              go_simp
              exact hK0.out (.bool (brF false l)) _ (BRel.nx (Nx.refl _)) (upd_same _ _ _) (fun h => by cases h)
            · obtain rfl := Option.some.inj ho
              refine Or.inl ⟨(wanted_of (b := true) rfl rfl (by rw [hsz]; decide) (hE ⟨20, .guard⟩ (by simp) rfl)).trans (by rfl), ?_⟩
              have hK0 := Lib.hid hK
              clear hK hE hF hR hsz HEE
              unfold Oper.wp
              have em : (Instr.makeMap 36 none).run Try.prog w1 = .ok (.map (some w1.heap.size)) (w1.alloc (.map #[] 0)) := rfl
              go_simp
              exact hK0.out (.map (some w1.heap.size)) _ (BRel.nx (Nx.one w1 _)) ⟨w1.heap.size, 0, upd_same _ _ _, HRN.out.size, ⟨Nat.zero_le _, heap_alloc_new w1 _⟩⟩ (fun h => by cases h)
            · obtain rfl := Option.some.inj ho
              refine Or.inl ⟨(wanted_of (b := true) rfl rfl (by rw [hsz]; decide) (hE ⟨20, .guard⟩ (by simp) rfl)).trans (by rfl), ?_⟩
              have hK0 := Lib.hid hK
              clear hK hE hF hR hsz HEE
              unfold Oper.wp
              go_simp
              exact hK0.out (.bool (brF false l)) _ (BRel.nx (Nx.refl _)) (upd_same _ _ _) (fun h => by cases h)
            · obtain rfl := Option.some.inj ho
              refine Or.inl ⟨(wanted_of (b := true) rfl rfl (by rw [hsz]; decide) (hE ⟨20, .guard⟩ (by simp) rfl)).trans (by rfl), ?_⟩
              obtain ⟨mm, n0, ee, hmm, hb0⟩ : ∃ mm n, a1.tmps.getD 99 undef = .map (some mm) ∧ W6.heap.size ≤ mm ∧ BM (.bool (brF false l)) (.bool (l.any id)) w1 mm n := hE ⟨26, .data⟩ (by simp) rfl
              have e99 := tmp_of ee
              have HB0 := Lib.hid hb0
              have HMM := Lib.hid hmm
              obtain ⟨m9, _, e9, _, _⟩ := HEE.out ⟨26, .data⟩ (by simp) rfl
              obtain rfl : mm = m9 := by have h9 := ee.symm.trans e9; simpa using h9
              have HEM := Lib.hid e9
              clear hb0 hmm ee e9
              have e100 : a1.tmps[100]?.getD undef = .bool (brF false l) := tmp_of (show a1.tmps.getD 100 undef = _ from hE ⟨27, .data⟩ (by simp) rfl)
              have hK0 := Lib.hid hK
              clear hK hE hF hR hsz HEE
              unfold Oper.wp
              have em := mapU 36 4 (by kernel_rfl) (.bool (brF false l)) (.bool (l.any id)) w1 mm n0 HB0.out false
              simp only [bV] at em
              go_simp
              exact hK0.out _ _ (mapU_rel HB0.out false HMM.out).1 ⟨mm, bPut false n0, (if_neg (by decide)).trans HEM.out, (mapU_rel HB0.out false HMM.out).2.1, (mapU_rel HB0.out false HMM.out).2.2⟩ (fun _ => rfl)
            · obtain rfl := Option.some.inj ho
              refine Or.inl ⟨(wanted_of (b := true) rfl rfl (by rw [hsz]; decide) (hE ⟨20, .guard⟩ (by simp) rfl)).trans (by rfl), ?_⟩
              have hK0 := Lib.hid hK
              clear hK hE hF hR hsz HEE
              unfold Oper.wp
              go_simp
              exact hK0.out (.bool (l.any id)) _ (BRel.nx (Nx.refl _)) (upd_same _ _ _) (fun h => by cases h)
            · obtain rfl := Option.some.inj ho
              refine Or.inl ⟨(wanted_of (b := true) rfl rfl (by rw [hsz]; decide) (hE ⟨20, .guard⟩ (by simp) rfl)).trans (by rfl), ?_⟩
              obtain ⟨mm, n0, ee, hmm, hb0⟩ : ∃ mm n, a1.tmps.getD 99 undef = .map (some mm) ∧ W6.heap.size ≤ mm ∧ BM (.bool (brF false l)) (.bool (l.any id)) w1 mm n := hE ⟨26, .data⟩ (by simp) rfl
              have e99 := tmp_of ee
              have HB0 := Lib.hid hb0
              have HMM := Lib.hid hmm
              obtain ⟨m9, _, e9, _, _⟩ := HEE.out ⟨26, .data⟩ (by simp) rfl
              obtain rfl : mm = m9 := by have h9 := ee.symm.trans e9; simpa using h9
              have HEM := Lib.hid e9
              clear hb0 hmm ee e9
              have e101 : a1.tmps[101]?.getD undef = .bool (l.any id) := tmp_of (show a1.tmps.getD 101 undef = _ from hE ⟨29, .data⟩ (by simp) rfl)
              have hK0 := Lib.hid hK
              clear hK hE hF hR hsz HEE
              unfold Oper.wp
              have em := mapU 36 4 (by kernel_rfl) (.bool (brF false l)) (.bool (l.any id)) w1 mm n0 HB0.out true
              simp only [bV] at em
              go_simp
              exact hK0.out _ _ (mapU_rel HB0.out true HMM.out).1 ⟨mm, bPut true n0, (if_neg (by decide)).trans HEM.out, (mapU_rel HB0.out true HMM.out).2.1, (mapU_rel HB0.out true HMM.out).2.2⟩ (fun _ => rfl)
            · obtain rfl := Option.some.inj ho
              refine Or.inl ⟨(wanted_of (b := true) rfl rfl (by rw [hsz]; decide) (hE ⟨20, .guard⟩ (by simp) rfl)).trans (by rfl), ?_⟩
              obtain ⟨mm, n0, ee, hmm, hb0⟩ : ∃ mm n, a1.tmps.getD 99 undef = .map (some mm) ∧ W6.heap.size ≤ mm ∧ BM (.bool (brF false l)) (.bool (l.any id)) w1 mm n := hE ⟨26, .data⟩ (by simp) rfl
              have e99 := tmp_of ee
              have HB0 := Lib.hid hb0
              have HMM := Lib.hid hmm
              obtain ⟨m2, k2, x2, y2, z2⟩ : ∃ mm n, a1.tmps.getD 99 undef = .map (some mm) ∧ BM (.bool (brF false l)) (.bool (l.any id)) w1 mm n ∧ bHas false n := HEE.out ⟨28, .data⟩ (by simp) rfl
              obtain ⟨m3, k3, x3, y3, z3⟩ : ∃ mm n, a1.tmps.getD 99 undef = .map (some mm) ∧ BM (.bool (brF false l)) (.bool (l.any id)) w1 mm n ∧ bHas true n := HEE.out ⟨30, .data⟩ (by simp) rfl
              have HN2 := Lib.hid (show ∃ n, BM (.bool (brF false l)) (.bool (l.any id)) w1 mm n ∧ bHas false n ∧ bHas true n from by
                rw [ee] at x2 x3
                obtain rfl : mm = m2 := by simpa using x2
                obtain rfl : mm = m3 := by simpa using x3
                exact bM_both y2 y3 z2 z3)
              clear hb0 hmm ee x2 x3 y2 y3 z2 z3
              have hK0 := Lib.hid hK
              clear hK hE hF hR hsz HEE
              unfold Oper.wp
              go_simp
              exact hK0.out (.map (some mm)) _ (BRel.nx (Nx.refl _)) (by obtain ⟨n9, h9⟩ := HN2.out; exact ⟨mm, n9, upd_same _ _ _, h9⟩) (fun h => by cases h)
            · obtain rfl := Option.some.inj ho
              refine Or.inl ⟨(wanted_of (b := true) rfl rfl (by rw [hsz]; decide) (hE ⟨20, .guard⟩ (by simp) rfl)).trans (by rfl), ?_⟩
              have hK0 := Lib.hid hK
              clear hK hE hF hR hsz HEE
              unfold Oper.wp
              go_simp
              exact hK0.out (.bool false) _ (BRel.nx (Nx.refl _)) (upd_same _ _ _) (fun h => by cases h)
            · obtain rfl := Option.some.inj ho
              refine Or.inl ⟨(wanted_of (b := true) rfl rfl (by rw [hsz]; decide) (hE ⟨20, .guard⟩ (by simp) rfl)).trans (by rfl), ?_⟩
              obtain ⟨mm, n0, ee, hb0, hf0, ht0⟩ : ∃ mm n, a1.tmps.getD 102 undef = .map (some mm) ∧ BM (.bool (brF false l)) (.bool (l.any id)) w1 mm n ∧ bHas false n ∧ bHas true n := hE ⟨31, .data⟩ (by simp) rfl
              have e102 := tmp_of ee
              have HB0 := Lib.hid hb0
              have HF0 := Lib.hid hf0
              have HT0 := Lib.hid ht0
              have e103 : a1.tmps[103]?.getD undef = .bool false := tmp_of (show a1.tmps.getD 103 undef = _ from hE ⟨32, .data⟩ (by simp) rfl)
              have hK0 := Lib.hid hK
              clear hK hE hF hR hsz HEE
              unfold Oper.wp
              have em : (Instr.lookup 36 (.map (some mm)) (.bool false) false).run Try.prog w1 = .ok (.bool (brF false l)) w1 := mapL 36 4 (by kernel_rfl) (.bool (brF false l)) (.bool (l.any id)) w1 mm n0 HB0.out false HF0.out
              go_simp
              exact hK0.out (.bool (brF false l)) _ (BRel.nx (Nx.refl _)) (upd_same _ _ _) (fun h => by cases h)
            · obtain rfl := Option.some.inj ho
              refine Or.inl ⟨(wanted_of (b := true) rfl rfl (by rw [hsz]; decide) (hE ⟨20, .guard⟩ (by simp) rfl)).trans (by rfl), ?_⟩
              have e98 : a1.tmps[98]?.getD undef = .bool (brF false l) := tmp_of (show a1.tmps.getD 98 undef = _ from hE ⟨25, .data⟩ (by simp) rfl)
              have e104 : a1.tmps[104]?.getD undef = .bool (brF false l) := tmp_of (show a1.tmps.getD 104 undef = _ from hE ⟨33, .data⟩ (by simp) rfl)
              have hK0 := Lib.hid hK
              clear hK hE hF hR hsz HEE
              unfold Oper.wp
              go_simp
              exact hK0.out (.bool true) _ (BRel.nx (Nx.refl _)) (upd_same _ _ _) (fun h => by cases h)
            · obtain rfl := Option.some.inj ho
              refine Or.inl ⟨wanted_none rfl, ?_⟩
              have e93 : a1.tmps[93]?.getD undef = .bool true := tmp_of (show a1.tmps.getD 93 undef = _ from hE ⟨20, .data⟩ (by simp) rfl)
              have e105 : a1.tmps[105]?.getD undef = .bool true := tmp_of (show a1.tmps.getD 105 undef = _ from hE ⟨34, .data⟩ (by simp) rfl)
              have hK0 := Lib.hid hK
              clear hK hE hF hR hsz HEE
              unfold Oper.wp
              go_simp
              exact hK0.out (.bool true) _ (BRel.nx (Nx.refl _)) (upd_same _ _ _) (fun h => by cases h)
            · obtain rfl := Option.some.inj ho
              refine Or.inl ⟨wanted_none rfl, ?_⟩
              have e106 : a1.tmps[106]?.getD undef = .bool true := tmp_of (show a1.tmps.getD 106 undef = _ from hE ⟨35, .data⟩ (by simp) rfl)
              have hK0 := Lib.hid hK
              clear hK hE hF hR hsz HEE
              unfold Oper.wp
              go_simp
              exact hK0.out (.bool true) _ (BRel.nx (Nx.refl _)) (upd_same _ _ _) (fun h => by cases h)
            · cases ho
          · intro a1 w1 hF hR hP
            have f4 : a1.tmps[4]?.getD undef = .bool true := tmp_of (show a1.tmps.getD 4 undef = _ from hP 36 (by decide))
            have fd : a1.defers = [] := hF.1
            have hn := N5.out.trans (k5.out.trans (hR.1 (Nx.refl _)))
            clear hF hR hP
            go_wp2
            try simp only [Exit.inBlock, Exit.then]
            refine bodyPost_ret (by simp [results, Try.results3, go_sem, f4]; try rfl) fd ?_
            exact ⟨rfl, hn⟩
end Go.Proofs.Ytdpccnpaajhliaa
