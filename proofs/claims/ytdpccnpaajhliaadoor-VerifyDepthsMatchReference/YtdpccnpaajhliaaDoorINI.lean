/- What Targets of layer 7 returns. Condition: a program that reads as a list. -/
import Derived.Test.YtdpccnpaajhliaaDoorIN6
import Derived.Test.YtdpccnpaajhliaaDoorIShelf
import Derived.Test.YtdpccnpaajhliaaDoorINH
import Derived.Lib.RowBridge
namespace Go.Proofs.YtdpccnpaajhliaaDoor
open Go.RowKit Go.Sort

/-- The cells of a slice read as the list of integers. -/
def RdZ (w : World) (A : Option Addr) (xs : List Int) : Prop := ∀ (k : Nat) (n : Int), xs[k]? = some n → ∃ ad, A = some ad ∧ w.cell? (ad.add k) = some (.int .i64 n)
theorem RdZ.nx {w w' : World} {A : Option Addr} {xs : List Int} (h : RdZ w A xs) (k : Nx w w') : RdZ w' A xs := fun i b hi => by
  obtain ⟨ad, e, hc⟩ := h i b hi
  exact ⟨ad, e, k.cell hc⟩
def zV (xs : List Int) : List Value := xs.map (Value.int .i64)
theorem zV_snoc (xs : List Int) (n : Int) : zV (xs ++ [n]) = zV xs ++ [.int .i64 n] := by simp [zV]
theorem zV_one (xs : List Int) : ∀ u ∈ zV xs, u.oneCell' = true := by
  intro u hu; obtain ⟨b, _, rfl⟩ := List.mem_map.1 hu; rfl
theorem own_rdz {w : World} {base n : Nat} {v : Value} {xs : List Int} (h : w.ownsRow base 3 1 v n (zV xs)) (hn : xs.length = n) : ∃ A c, v = .slice A n c ∧ RdZ w A xs := by
  subst hn
  obtain ⟨A, c, e, hr⟩ := own_form h
  exact ⟨A, c, e, fun k n hk => hr k _ (by simp [zV, hk])⟩
def TgPost (L : List Int) (w : World) (e : Ending) (w' : World) : Prop := ∃ A c, e = .returned (.slice A L.length c) ∧ RdZ w' A L ∧ Nx w w'

set_option maxHeartbeats 3200000 in
set_option maxRecDepth 100000 in
theorem targets_any (A : Option Addr) (code : List In4) (n c : Nat) (hn : code.length = n) (hl : n ≤ 1000000) (w : World) (hr : RdC w A code) :
    Calls Tryd.prog 13 #[.slice A n c] w (TgPost (tgP code) w) := by
  obtain ⟨i0, hi, hz0, hz1, hz2⟩ := info_parts info3
  have HR := Lib.hid hr
  have HL := Lib.hid hn
  clear hr hn
  go_enter Tryd.func13, Tryd.ntmps13
  go_wp2
  go_loopw [3, 8] (fun v i wr => ∃ k : Nat, k ≤ n ∧ i = .int .i64 k ∧ wr.ownsRow w.heap.size 3 1 v (tgs code k).length (zV (tgs code k)) ∧ Nx w wr) (fun _ i _ => n - (intOf i).toNat)
  case atStart => exact ⟨0, Nat.zero_le _, rfl, World.ownsRow_nil _ _ _ _, Nx.refl _⟩
  case round =>
    obtain ⟨k, hk, rfl, ho, hnx⟩ := hrel
    have HO := Lib.hid ho
    have HN := Lib.hid hnx
    have hsz := Lib.hid hnx.size
    clear ho hnx
    by_cases hlt : k < n
    · obtain ⟨x, hx⟩ := code_at code k (by rw [HL.out]; exact hlt)
      have hki : (k : Int) < (n : Int) := by omega
      have hle := tgs_len code k
      have HY := Lib.hid (fun h : x.op = 15 => tgs_yes hx h)
      have HX := Lib.hid (fun h : x.op ≠ 15 => tgs_no hx h)
      obtain ⟨ad, rfl, c0, c1, c2, c3⟩ := (HR.out.nx HN.out).fr4 hx
      obtain ⟨op, kk, nn, t⟩ := x
      simp only at c0 c1 c2 c3 HY HX
      clear hx
      have K1 := Lib.hid (show Nx wr (wr.alloc (.cells #[.int .i64 op, .int .i64 kk, .int .i64 nn, .int .i64 t] 44)) from Nx.one _ _)
      have XB := Lib.hid (bx_new wr 44 [.int .i64 op, .int .i64 kk, .int .i64 nn, .int .i64 t])
      have b0 := XB.out.cell 0 rfl
      have b3 := XB.out.cell 3 rfl
      by_cases h15 : op = 15
      · subst h15
        have HYY := Lib.hid (HY.out rfl)
        have HXS := Lib.hid (new_one (wr.alloc (.cells #[.int .i64 15, .int .i64 kk, .int .i64 nn, .int .i64 t] 44)) (.int .i64 t) 3)
        rw [show (wr.alloc (.cells #[.int .i64 15, .int .i64 kk, .int .i64 nn, .int .i64 t] 44)).heap.size = wr.heap.size + 1 by simp] at HXS
        obtain ⟨m, hm⟩ : ∃ m, (tgs code k).length = m := ⟨_, rfl⟩
        have HM := Lib.hid hm
        rw [hm] at HO hle
        clear hm
        go_wp2_with (first | (at_builtin; refine wpList_append_own _ rfl (.tmp 15) (.tmp 18) 34 rfl w.heap.size 3 i0 (.int .i64 0) 1 8 Tryd.underlying34 hi hz0 hz1 hz2 rfl (by decide) _ _ _ rfl (World.ownsRow.alloc (World.ownsRow.alloc HO.out _) _) ⟨wr.heap.size + 1, 0, none⟩ 1 1 [.int .i64 t] rfl rfl HXS.out (by intro u hu; simp at hu; subst hu; rfl) (by unfold maxLen; omega) (by omega) (by have := hsz.out; simp; omega) ?_))
        intro v' w1 ho1 hg _
        have HO1 := Lib.hid (show w1.ownsRow w.heap.size 3 1 v' (tgs code (k + 1)).length (zV (tgs code (k + 1))) by rw [HYY.out, zV_snoc, List.length_append, HM.out]; exact ho1)
        have N1 := Lib.hid (show Nx w w1 from grown_nx ((HN.out.trans K1.out).alloc _) hg (World.ownsRow.alloc (World.ownsRow.alloc HO.out _) _) (Nat.le_refl _))
        clear ho1 hg HO b0 b3 c0 c1 c2 c3
        go_wp2_with fail
        go_roundw
        case rel => exact ⟨k + 1, by omega, by go_num, HO1.out, N1.out⟩
        case measure => simp [intOf]; omega
      · have t1 : (op == 15) = false := by simpa using h15
        have HXX := Lib.hid (HX.out h15)
        clear h15
        go_wp2_with fail
        go_roundw
        case rel => exact ⟨k + 1, by omega, by go_num, by rw [HXX.out]; exact World.ownsRow.alloc HO.out _, HN.out.trans K1.out⟩
        case measure => simp [intOf]; omega
    · obtain rfl : n = k := by omega
      have hki : ¬ (n : Int) < (n : Int) := by omega
      have ho2 := HO.out
      have hle := tgs_len code n
      have HP := Lib.hid (show tgP code = Lib.compact ((tgs code n).mergeSort fun x y => decide (x ≤ y)) by unfold tgP; rw [HL.out])
      rcases ho2.2 with ⟨rfl, hz⟩ | ⟨g, cap, cur, rfl, hbase, hb, h1, h2, h3, h4⟩
      · have hnil : tgs code n = [] := List.eq_nil_of_length_eq_zero hz
        have HE := Lib.hid (show tgP code = [] by rw [HP.out, hnil]; simp [Lib.compact, Lib.compactUpTo])
        clear ho2 hz hnil HO
        go_wp2_with fail
        refine (Tryd.slices_Sort_int_none none 0 wr).mono ?_
        rintro e w2 ⟨rfl, rfl⟩
        go_wp2_with fail
        refine (Tryd.slices_Compact_int_empty none 0 w2).mono ?_
        rintro e w3 ⟨rfl, rfl⟩
        go_wp2_with fail
        go_ret
        refine ⟨none, 0, ?_, ?_, HN.out⟩
        · rw [HE.out]; rfl
        · rw [HE.out]; intro k n hk; simp at hk
      · have hblk : g < wr.heap.size := (Array.getElem?_eq_some_iff.1 hb).1
        have SO := Lib.hid (Tryd.slices_Sort_int g 0 cap (tgs code n) wr (holds_of_blockI hb (by simpa [zV] using h4)) hblk (by omega))
        have HB := Lib.hid hb
        have HK := Lib.hid (show ((tgs code n).length ≤ cap ∧ cap ≤ maxLen) ∧ cur.size = cap * 1 from ⟨⟨h1, h2⟩, h3⟩)
        clear ho2 hb h1 h2 h3 h4 HO
        obtain ⟨ts, hts⟩ : ∃ ts, ((tgs code n).mergeSort fun x y => decide (x ≤ y)) = ts := ⟨_, rfl⟩
        have hlen : ts.length = (tgs code n).length := by rw [← hts]; exact List.length_mergeSort _
        rw [hts] at SO HP
        have HLN := Lib.hid hlen
        clear hts hlen
        obtain ⟨ss, hss⟩ : ∃ ss, tgs code n = ss := ⟨_, rfl⟩
        rw [hss] at SO HK HLN hle
        rw [hss]
        clear hss
        obtain ⟨m, hm⟩ : ∃ m, ss.length = m := ⟨_, rfl⟩
        have HM := Lib.hid hm
        rw [hm] at SO HK HLN hle
        rw [hm]
        clear hm
        go_wp2_with fail
        refine SO.out.mono ?_
        rintro e w2 ⟨rfl, q, os, hw2⟩
        have own2 : w2.ownsRow w.heap.size 3 1 (.slice (some ⟨g, 0, none⟩) ss.length cap) ss.length (ts.map (Value.int .i64)) := by
          rw [hw2]
          exact ownsRow_sortedI (by rw [HLN.out, HM.out]) hbase HB.out (by rw [HM.out]; exact HK.out.1.1) HK.out.1.2 HK.out.2
        have N2 := Lib.hid (show Nx w w2 from Below.grown HN.out (by rw [hw2]; exact grownBy_sortedI _) HN.out.size (fun k hk => by obtain rfl := Option.some.inj hk; exact hbase))
        rcases own2.2 with ⟨e0, _⟩ | ⟨g', cap', cur', e0, _, hb', h1', h2', h3', h4'⟩
        · cases e0
        simp only [Value.slice.injEq, Option.some.injEq, Addr.mk.injEq, and_true, true_and] at e0
        obtain ⟨rfl, rfl⟩ := e0
        have hblk2 : g < w2.heap.size := (Array.getElem?_eq_some_iff.1 hb').1
        have hts2 : ts.length = ss.length := by rw [HLN.out, HM.out]
        have CO := Lib.hid (Tryd.slices_Compact_int g 0 cap ts w2 (holds_of_blockI hb' (by rw [hts2]; simpa using h4')) (by rw [HLN.out]; omega) (by rw [hts2]; exact h1'))
        have HB2 := Lib.hid hb'
        have HK2 := Lib.hid (show (ts.length ≤ cap ∧ cap ≤ maxLen) ∧ cur'.size = cap * 1 from ⟨⟨by rw [hts2]; exact h1', h2'⟩, h3'⟩)
        rw [HLN.out] at CO
        clear own2 hw2 HB SO hb' h1' h2' h3' h4' hts2 HK
        go_wp2_with fail
        refine CO.out.mono ?_
        rintro e w3 ⟨rfl, q2, hw3⟩
        have hcl := Lib.compact_length_le ts
        have hl3 : (Lib.compact ts ++ List.replicate (m - (Lib.compact ts).length) 0).length = ts.length := by
          rw [List.length_append, List.length_replicate, HLN.out]
          rw [HLN.out] at hcl
          omega
        have own3 := ownsRow_sortedI (os := #[]) (n := q2) hl3 hbase HB2.out HK2.out.1.1 HK2.out.1.2 HK2.out.2
        have hg3 := grownBy_sortedI (w := w2) (g := g) (n := q2) (os := #[]) (Lib.compact ts ++ List.replicate (m - (Lib.compact ts).length) 0).toArray
        rw [grow_empty, ← hw3] at own3 hg3
        have N3 := Lib.hid (show Nx w w3 from Below.grown N2.out hg3 N2.out.size (fun k hk => by obtain rfl := Option.some.inj hk; exact hbase))
        have hrd : RdZ w3 (some ⟨g, 0, none⟩) (Lib.compact ts) := fun k z hk => by
          refine ⟨_, rfl, ?_⟩
          have hkl : k < (Lib.compact ts).length := (List.getElem?_eq_some_iff.1 hk).1
          refine (World.ownsRow.cells own3 (g := g) rfl) k _ ?_
          rw [List.getElem?_map, List.getElem?_append_left hkl, hk]
          rfl
        have RD := Lib.hid hrd
        clear hcl hl3 own3 hg3 hw3 hrd CO HB2 HK2
        go_wp2_with fail
        go_ret
        exact ⟨some ⟨g, 0, none⟩, cap, by rw [HP.out]; rfl, by rw [HP.out]; exact RD.out, N3.out⟩
end Go.Proofs.YtdpccnpaajhliaaDoor
