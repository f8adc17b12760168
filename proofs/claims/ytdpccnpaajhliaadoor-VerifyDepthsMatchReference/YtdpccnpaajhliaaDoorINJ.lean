/- What the reference's Targets of layer 7 returns. Condition: a program that reads as a list. -/
import Derived.Test.YtdpccnpaajhliaaDoorINI
import Derived.BigQuiet
import Derived.Deep.QuietTactic
import Derived.Laws.AppendOwnNone
namespace Go.Proofs.YtdpccnpaajhliaaDoor
open Go.RowKit

theorem own_low7 {w : World} {B B' : Nat} {T : TypeId} {z n : Nat} {v : Value} {ys : List Value} (h : w.ownsRow B T z v n ys) (hb : B' ≤ B) : w.ownsRow B' T z v n ys := by
  obtain ⟨h1, h2⟩ := h
  refine ⟨h1, ?_⟩
  rcases h2 with h2 | ⟨g, cap, cur, rfl, h3, h4⟩
  · exact .inl h2
  · exact .inr ⟨g, cap, cur, rfl, Nat.le_trans hb h3, h4⟩
set_option maxHeartbeats 6400000 in
set_option maxRecDepth 100000 in
theorem refTargets_any (A : Option Addr) (code : List In4) (n c : Nat) (hn : code.length = n) (hl : n ≤ 1000000) (w : World) (hr : RdC w A code) :
    Calls Tryd.prog 14 #[.slice A n c] w (TgPost (tgR code n) w) := by
  obtain ⟨i0, hi, hz0, hz1, hz2⟩ := info_parts info3
  have HR := Lib.hid hr
  have HL := Lib.hid hn
  clear hr hn
  go_enter Tryd.func14, Tryd.ntmps14
  go_wp2
  go_loopw [3, 4] (fun v i wr => ∃ k : Nat, k ≤ n ∧ i = .int .i64 k ∧ wr.ownsRow w.heap.size 3 1 v (tgR code k).length (zV (tgR code k)) ∧ Nx w wr) (fun _ i _ => n - (intOf i).toNat)
  case atStart => exact ⟨0, Nat.zero_le _, rfl, World.ownsRow_nil _ _ _ _, Nx.refl _⟩
  case round =>
    obtain ⟨k, hk, rfl, ho, hnx⟩ := hrel
    obtain ⟨wo, hwo⟩ : ∃ wo, wo = wr := ⟨_, rfl⟩
    rw [← hwo] at ho hnx ⊢
    clear hwo
    have HO := Lib.hid ho
    have HN := Lib.hid hnx
    have hsz := Lib.hid hnx.size
    have hle := tgR_len code k
    clear ho hnx
    by_cases hlt : k < n
    · obtain ⟨x, hx⟩ := code_at code k (by rw [HL.out]; exact hlt)
      have hki : (k : Int) < (n : Int) := by omega
      have HY := Lib.hid (fun h : x.op = 15 => tgR_yes hx h)
      have HX := Lib.hid (fun h : x.op ≠ 15 => tgR_no hx h)
      obtain ⟨ad, rfl, c0, _, _, c3⟩ := (HR.out.nx HN.out).fr4 hx
      obtain ⟨op, kk, nn, t⟩ := x
      simp only at c0 c3 HY HX
      clear hx
      obtain ⟨L, hLL⟩ : ∃ L, tgR code k = L := ⟨_, rfl⟩
      rw [hLL] at HO HY HX hle
      have HLL := Lib.hid hLL
      clear hLL
      by_cases h15 : op = 15
      · subst h15
        have HYY := Lib.hid (HY.out rfl)
        clear HX HY
        have ho2 := HO.out
        obtain ⟨m, hm⟩ : ∃ m, L.length = m := ⟨_, rfl⟩
        have HM := Lib.hid hm
        rw [hm] at ho2 hle
        clear hm
        rcases ho2.2 with ⟨rfl, hz⟩ | ⟨g, cap, cur, rfl, hbase, hb, h1, h2, h3, h4⟩
        · obtain rfl : L = [] := List.eq_nil_of_length_eq_zero (by rw [HM.out]; exact hz)
          obtain rfl : m = 0 := by rw [← HM.out]; rfl
          have HIN := Lib.hid (show insD [] t = [t] by simp [insD, pos])
          clear ho2 hz HO
          go_wp2_with fail
          go_loopw [5] (fun i wr2 => i = .int .i64 0 ∧ Nx wo wr2) (fun _ _ => 0)
          case atStart => exact ⟨rfl, Nx.refl _⟩
          case round =>
            obtain ⟨rfl, hn2⟩ := hrel
            have HN2 := Lib.hid hn2
            clear hn2
            have c3' : ∀ q, ((wr.drewN q).alloc (.cells #[] 3)).cell? ⟨(ad.add (k * 4)).block, (ad.add (k * 4)).off + 3, none⟩ = some (.int .i64 t) := fun q => ((HN2.out.drewN q).alloc _).cell c3
            go_wp2_with fail
            go_quiet (fail)
            go_wp2_with fail
            go_quiet (fail)
            have HXS := Lib.hid (show ∀ (w0 : World) (a : Nat) (v : Value), [Value.int .i64 t][a]? = some v → ((w0.alloc (.cells #[] 3)).alloc (.cells #[.int .i64 t] 3)).cell? ((⟨w0.heap.size + 1, 0, none⟩ : Addr).add a) = some v from fun w0 a v hv => by
              have h := new_one (w0.alloc (.cells #[] 3)) (.int .i64 t) 3 a v hv
              rwa [show (w0.alloc (.cells #[] 3)).heap.size = w0.heap.size + 1 by simp] at h)
            go_wp2_with (first
              | (at_builtin; refine wpList_append_own_none rfl (.tmp 53) (.tmp 56) 34 rfl _ 3 i0 1 Tryd.underlying34 hi _ _ _ rfl (World.ownsRow_lit (e := 3) (size := 1) _ #[] 0 (Nat.le_refl _) (by unfold maxLen; omega) rfl) rfl ?_)
              | (at_builtin; refine wpList_append_own _ rfl (.tmp 58) (.tmp 64) 34 rfl wr.heap.size 3 i0 (.int .i64 0) 1 8 Tryd.underlying34 hi hz0 hz1 hz2 rfl (by decide) _ _ _ rfl (World.ownsRow.alloc (World.ownsRow_lit (e := 3) (size := 1) (wr.drewN _) #[] 0 (Nat.le_refl _) (by unfold maxLen; omega) rfl) _) ⟨wr.heap.size + 1, 0, none⟩ 1 1 [.int .i64 t] rfl rfl (HXS.out _) (by intro u hu; simp at hu; subst hu; rfl) (by unfold maxLen; omega) (by omega) (by simp; omega) ?_))
            intro v6 w6 ho6 hg6 _
            have N6 := Lib.hid (show Nx wo w6 from grown_nx (((HN2.out.drewN _).alloc _).alloc _) hg6 (World.ownsRow.alloc (World.ownsRow_lit (e := 3) (size := 1) (wr.drewN _) #[] 0 (Nat.le_refl _) (by unfold maxLen; omega) rfl) _) HN2.out.size)
            have O6 := Lib.hid ho6
            clear ho6 hg6
            go_wp2_with (first
              | (at_builtin; refine wpList_append_own_none rfl (.tmp 66) (.tmp 69) 34 rfl _ 3 i0 1 Tryd.underlying34 hi _ _ _ rfl O6.out rfl ?_))
            go_roundw
            case rel => exact ⟨k + 1, by omega, by go_num, by rw [HYY.out, HIN.out]; exact own_low7 O6.out (Nat.le_trans HN.out.size HN2.out.size), HN.out.trans N6.out⟩
            case measure => simp [intOf]; omega
        · have hcap : m ≤ cap := h1
          have HGB := Lib.hid (show w.heap.size ≤ g ∧ g < wo.heap.size from ⟨hbase, (Array.getElem?_eq_some_iff.1 hb).1⟩)
          have HCE := Lib.hid (show ∀ (j : Nat) (y : Int), L[j]? = some y → wo.cell? ((⟨g, 0, none⟩ : Addr).add j) = some (.int .i64 y) from fun j y hy => (World.ownsRow.cells ho2 (g := g) rfl) j _ (by simp [zV, hy]))
          have HO2 := Lib.hid ho2
          clear ho2 hb h1 h2 h3 h4 hbase HO
          go_wp2_with fail
          go_loopw [5] (fun i wr2 => ∃ j : Nat, j ≤ m ∧ i = .int .i64 j ∧ (∀ a y, a < j → L[a]? = some y → y < t) ∧ Nx wo wr2) (fun i _ => m - (intOf i).toNat)
          case atStart => exact ⟨0, Nat.zero_le _, rfl, fun a y h => absurd h (by omega), Nx.refl _⟩
          case round =>
            obtain ⟨j, hj, rfl, hlo, hn2⟩ := hrel
            have HLO := Lib.hid hlo
            have HN2 := Lib.hid hn2
            clear hlo hn2
            have c3' := HN2.out.cell c3
            by_cases hjm : j < m
            · have hji : (j : Int) < (m : Int) := by omega
              have hjd : decide ((j : Int) < (m : Int)) = true := decide_eq_true hji
              obtain ⟨y, hy⟩ : ∃ y, L[j]? = some y := ⟨_, List.getElem?_eq_getElem (by rw [HM.out]; exact hjm)⟩
              have d0 := HN2.out.cell (HCE.out j y hy)
              rw [Addr.add_lit, Nat.zero_add] at d0
              have HJY := Lib.hid hy
              clear hy
              by_cases hyt : y < t
              · have hyd : decide (y < t) = true := decide_eq_true hyt
                have HLO2 := Lib.hid (show ∀ a z, a < j + 1 → L[a]? = some z → z < t from fun a z ha hz => by
                  rcases Nat.lt_or_ge a j with h | h
                  · exact HLO.out a z h hz
                  · obtain rfl : a = j := by omega
                    rw [HJY.out] at hz; cases hz; exact hyt)
                go_wp2_with fail
                go_quiet (fail)
                go_wp2_with fail
                go_roundw
                case rel => exact ⟨j + 1, by omega, by go_num, HLO2.out, HN2.out.drewN _⟩
                case measure => simp [intOf]; omega
              · have hyd : decide (y < t) = false := decide_eq_false hyt
                have HPO := Lib.hid (show j = pos L t from pos_is (by rw [HM.out]; exact hj) HLO.out (fun z hz => by rw [HJY.out] at hz; cases hz; exact hyt))
                by_cases hyt2 : y = t
                · have HIN := Lib.hid (show insD L t = L by unfold insD; rw [if_pos]; rw [← HPO.out, HJY.out, hyt2])
                  have e1 : (y == t) = true := by simpa using hyt2
                  clear hyt
                  go_wp2_with fail
                  go_quiet (fail)
                  go_wp2_with fail
                  go_quiet (fail)
                  go_wp2_with fail
                  go_roundw
                  case rel => exact ⟨k + 1, by omega, by go_num, by rw [HYY.out, HIN.out, HM.out]; exact own_drewN (own_of HO2.out fun g _ hg => HN2.out.block g hg) _, HN.out.trans (HN2.out.drewN _)⟩
                  case measure => simp [intOf]; omega
                · have e1 : (y == t) = false := by simpa using hyt2
                  have HIN := Lib.hid (show insD L t = L.take j ++ [t] ++ L.drop j by unfold insD; rw [if_neg]; rw [← HPO.out]; rw [← HPO.out, HJY.out]; intro h; cases h; exact hyt2 rfl)
                  clear hyt hyt2
                  go_wp2_with fail
                  go_quiet (fail)
                  go_wp2_with fail
                  go_quiet (fail)
                  have HLEN := Lib.hid (show (insD L t).length = m + 1 by rw [HIN.out]; first | (simp [HM.out]; done) | (simp [HM.out]; omega))
                  have HZV := Lib.hid (show zV (insD L t) = zV (L.take j) ++ [.int .i64 t] ++ zV (L.drop j) by rw [HIN.out]; simp [zV])
                  have HSR := Lib.hid (show ∀ a u, (zV L)[a]? = some u → wo.cell? ((⟨g, 0, none⟩ : Addr).add a) = some u from fun a u hu => by
                    obtain ⟨y, hy, rfl⟩ : ∃ y, L[a]? = some y ∧ u = .int .i64 y := by
                      rw [show zV L = L.map (Value.int .i64) from rfl, List.getElem?_map] at hu
                      cases hl : L[a]? with
                      | none => rw [hl] at hu; cases hu
                      | some y => rw [hl] at hu; exact ⟨y, rfl, (Option.some.inj hu).symm⟩
                    exact HCE.out a y hy)
                  have HSR1 := Lib.hid (show ∀ a u, (zV (L.take j))[a]? = some u → wo.cell? ((⟨g, 0, none⟩ : Addr).add a) = some u from fun a u hu => HSR.out a u (by
                    rw [show zV (L.take j) = (zV L).take j by simp [zV, List.map_take], List.getElem?_take] at hu
                    split at hu
                    · exact hu
                    · cases hu))
                  have HSR2 := Lib.hid (show ∀ o, o = j → ∀ a u, (zV (L.drop j))[a]? = some u → wo.cell? ((⟨g, o, none⟩ : Addr).add a) = some u from fun o ho a u hu => by
                    subst ho
                    have := HSR.out (o + a) u (by rw [show zV (L.drop o) = (zV L).drop o by simp [zV, List.map_drop], List.getElem?_drop] at hu; exact hu)
                    rw [Addr.add_lit, Nat.zero_add] at this
                    rw [Addr.add_lit]
                    exact this)
                  have HTD := Lib.hid (show (zV (L.drop j)).length = m - j by simp [zV, HM.out])
                  have HTL := Lib.hid (show (zV (L.take j)).length = j by first | (simp [zV, HM.out]; done) | (simp [zV, HM.out]; omega))
                  by_cases hj0 : j = 0
                  all_goals
                    go_wp2_with (first | (at_builtin; refine wpList_append_own _ rfl (.tmp 53) (.tmp 56) 34 rfl _ 3 i0 (.int .i64 0) 1 8 Tryd.underlying34 hi hz0 hz1 hz2 rfl (by decide) _ _ _ rfl (World.ownsRow_lit (e := 3) (size := 1) _ #[] 0 (Nat.le_refl _) (by unfold maxLen; omega) rfl) ⟨g, 0, none⟩ _ cap (zV (L.take j)) rfl (HTL.out.trans (by omega)) (fun a u hu => ((HN2.out.drewN _).alloc _).cell (HSR1.out a u hu)) (zV_one _) (by unfold maxLen; omega) (by omega) (by simp) ?_))
                    intro v5 w5 ho5 hg5 _
                    have N5 := Lib.hid (show Nx wo w5 from grown_nx ((HN2.out.drewN _).alloc _) hg5 (World.ownsRow_lit (e := 3) (size := 1) _ #[] 0 (Nat.le_refl _) (by unfold maxLen; omega) rfl) HN2.out.size)
                    have O5 := Lib.hid ho5
                    have hs5 : wr.heap.size ≤ w5.heap.size := by have := hg5.size; simp at this; omega
                    have c35 := N5.out.cell c3
                    clear ho5 hg5 c3' d0
                    go_wp2_with (first | (at_builtin; refine wpList_append_own _ rfl (.tmp 58) (.tmp 64) 34 rfl wr.heap.size 3 i0 (.int .i64 0) 1 8 Tryd.underlying34 hi hz0 hz1 hz2 rfl (by decide) _ _ _ rfl (World.ownsRow.alloc O5.out _) ⟨w5.heap.size, 0, none⟩ 1 1 [.int .i64 t] rfl rfl (new_one _ _ _) (by intro u hu; simp at hu; subst hu; rfl) (by unfold maxLen; omega) (by omega) (by simp; omega) ?_))
                    intro v6 w6 ho6 hg6 _
                    have N6 := Lib.hid (show Nx wo w6 from grown_nx (N5.out.alloc _) hg6 (World.ownsRow.alloc O5.out _) HN2.out.size)
                    have O6 := Lib.hid ho6
                    have hs6 : wr.heap.size ≤ w6.heap.size := by have := hg6.size; simp at this; omega
                    clear ho6 hg6 c35
                    go_wp2_with (first | (at_builtin; refine wpList_append_own _ rfl (.tmp 66) (.tmp 69) 34 rfl wr.heap.size 3 i0 (.int .i64 0) 1 8 Tryd.underlying34 hi hz0 hz1 hz2 rfl (by decide) _ _ _ rfl O6.out ⟨g, _, none⟩ _ _ (zV (L.drop j)) rfl (HTD.out.trans (by omega)) (fun a u hu => N6.out.cell (HSR2.out _ (by omega) a u hu)) (zV_one _) (by unfold maxLen; omega) (by omega) hs6 ?_))
                    intro v7 w7 ho7 hg7 _
                    have N7 := Lib.hid (show Nx wo w7 from grown_nx N6.out hg7 O6.out HN2.out.size)
                    have O7 := Lib.hid (own_low7 ho7 (Nat.le_trans HN.out.size HN2.out.size))
                    clear ho7 hg7
                    have HF := Lib.hid (show w7.ownsRow w.heap.size 3 1 v7 (tgR code (k + 1)).length (zV (tgR code (k + 1))) by
                      rw [HYY.out, HLEN.out, HZV.out]
                      have e : j + 1 + (m - j) = m + 1 := by omega
                      have h := O7.out
                      first
                        | (rw [e] at h; simpa using h)
                        | (simpa [hj0, zV, Nat.add_comm] using h)
                        | (rw [hmc]; simpa [zV] using h))
                    go_wp2_with fail
                    go_roundw
                    case rel => exact ⟨k + 1, by omega, by go_num, HF.out, HN.out.trans N7.out⟩
                    case measure => simp [intOf]; omega
            · obtain rfl : m = j := by omega
              have hji : ¬ (m : Int) < (m : Int) := by omega
              have hjd : decide ((m : Int) < (m : Int)) = false := decide_eq_false hji
              have hno : L[m]? = none := List.getElem?_eq_none (by rw [HM.out]; exact Nat.le_refl _)
              have HPO := Lib.hid (show m = pos L t from pos_is (by rw [HM.out]; exact Nat.le_refl _) HLO.out (fun z hz => by rw [hno] at hz; cases hz))
              have HIN := Lib.hid (show insD L t = L.take m ++ [t] ++ L.drop m by unfold insD; rw [if_neg]; rw [← HPO.out]; rw [← HPO.out, hno]; intro h; cases h)
              clear hno
              go_wp2_with fail
              go_quiet (fail)
              go_wp2_with fail
              go_quiet (fail)
              have HLEN := Lib.hid (show (insD L t).length = m + 1 by rw [HIN.out]; first | (simp [HM.out]; done) | (simp [HM.out]; omega))
              have HZV := Lib.hid (show zV (insD L t) = zV (L.take m) ++ [.int .i64 t] ++ zV (L.drop m) by rw [HIN.out]; simp [zV])
              have HSR := Lib.hid (show ∀ a u, (zV L)[a]? = some u → wo.cell? ((⟨g, 0, none⟩ : Addr).add a) = some u from fun a u hu => by
                obtain ⟨y, hy, rfl⟩ : ∃ y, L[a]? = some y ∧ u = .int .i64 y := by
                  rw [show zV L = L.map (Value.int .i64) from rfl, List.getElem?_map] at hu
                  cases hl : L[a]? with
                  | none => rw [hl] at hu; cases hu
                  | some y => rw [hl] at hu; exact ⟨y, rfl, (Option.some.inj hu).symm⟩
                exact HCE.out a y hy)
              have HSR1 := Lib.hid (show ∀ a u, (zV (L.take m))[a]? = some u → wo.cell? ((⟨g, 0, none⟩ : Addr).add a) = some u from fun a u hu => HSR.out a u (by
                rw [show zV (L.take m) = (zV L).take m by simp [zV, List.map_take], List.getElem?_take] at hu
                split at hu
                · exact hu
                · cases hu))
              have HSR2 := Lib.hid (show ∀ o a u, (zV (L.drop m))[a]? = some u → wo.cell? ((⟨g, o, none⟩ : Addr).add a) = some u from fun o a u hu => by
                rw [List.drop_of_length_le (by rw [HM.out]; exact Nat.le_refl _)] at hu
                simp [zV] at hu)
              have HTD := Lib.hid (show (zV (L.drop m)).length = m - m by simp [zV, HM.out])
              have HTL := Lib.hid (show (zV (L.take m)).length = m by first | (simp [zV, HM.out]; done) | (simp [zV, HM.out]; omega))
              by_cases hj0 : m = 0 <;> by_cases hmc : m = cap
              all_goals
                go_wp2_with (first | (at_builtin; refine wpList_append_own _ rfl (.tmp 53) (.tmp 56) 34 rfl _ 3 i0 (.int .i64 0) 1 8 Tryd.underlying34 hi hz0 hz1 hz2 rfl (by decide) _ _ _ rfl (World.ownsRow_lit (e := 3) (size := 1) _ #[] 0 (Nat.le_refl _) (by unfold maxLen; omega) rfl) ⟨g, 0, none⟩ _ cap (zV (L.take m)) rfl (HTL.out.trans (by omega)) (fun a u hu => ((HN2.out.drewN _).alloc _).cell (HSR1.out a u hu)) (zV_one _) (by unfold maxLen; omega) (by omega) (by simp) ?_))
                intro v5 w5 ho5 hg5 _
                have N5 := Lib.hid (show Nx wo w5 from grown_nx ((HN2.out.drewN _).alloc _) hg5 (World.ownsRow_lit (e := 3) (size := 1) _ #[] 0 (Nat.le_refl _) (by unfold maxLen; omega) rfl) HN2.out.size)
                have O5 := Lib.hid ho5
                have hs5 : wr.heap.size ≤ w5.heap.size := by have := hg5.size; simp at this; omega
                have c35 := N5.out.cell c3
                clear ho5 hg5 c3'
                go_wp2_with (first | (at_builtin; refine wpList_append_own _ rfl (.tmp 58) (.tmp 64) 34 rfl wr.heap.size 3 i0 (.int .i64 0) 1 8 Tryd.underlying34 hi hz0 hz1 hz2 rfl (by decide) _ _ _ rfl (World.ownsRow.alloc O5.out _) ⟨w5.heap.size, 0, none⟩ 1 1 [.int .i64 t] rfl rfl (new_one _ _ _) (by intro u hu; simp at hu; subst hu; rfl) (by unfold maxLen; omega) (by omega) (by simp; omega) ?_))
                intro v6 w6 ho6 hg6 _
                have N6 := Lib.hid (show Nx wo w6 from grown_nx (N5.out.alloc _) hg6 (World.ownsRow.alloc O5.out _) HN2.out.size)
                have O6 := Lib.hid ho6
                have hs6 : wr.heap.size ≤ w6.heap.size := by have := hg6.size; simp at this; omega
                clear ho6 hg6 c35
                go_wp2_with (first | (at_builtin; refine wpList_append_own _ rfl (.tmp 66) (.tmp 69) 34 rfl wr.heap.size 3 i0 (.int .i64 0) 1 8 Tryd.underlying34 hi hz0 hz1 hz2 rfl (by decide) _ _ _ rfl O6.out ⟨g, _, none⟩ _ _ (zV (L.drop m)) rfl (HTD.out.trans (by omega)) (fun a u hu => N6.out.cell (HSR2.out _ a u hu)) (zV_one _) (by unfold maxLen; omega) (by omega) hs6 ?_))
                intro v7 w7 ho7 hg7 _
                have N7 := Lib.hid (show Nx wo w7 from grown_nx N6.out hg7 O6.out HN2.out.size)
                have O7 := Lib.hid (own_low7 ho7 (Nat.le_trans HN.out.size HN2.out.size))
                clear ho7 hg7
                have HF := Lib.hid (show w7.ownsRow w.heap.size 3 1 v7 (tgR code (k + 1)).length (zV (tgR code (k + 1))) by
                  rw [HYY.out, HLEN.out, HZV.out]
                  have e : m + 1 + (m - m) = m + 1 := by omega
                  have h := O7.out
                  first
                    | (rw [e] at h; simpa using h)
                    | (simpa [hj0, zV, Nat.add_comm] using h)
                    | (rw [hmc]; simpa [zV] using h))
                go_wp2_with fail
                go_roundw
                case rel => exact ⟨k + 1, by omega, by go_num, HF.out, HN.out.trans N7.out⟩
                case measure => simp [intOf]; omega
      · have t1 : (op == 15) = false := by simpa using h15
        have t2 : (op != 15) = true := by simpa using h15
        have HXX := Lib.hid (HX.out h15)
        clear h15
        go_wp2_with fail
        go_roundw
        case rel => exact ⟨k + 1, by omega, by go_num, by rw [HXX.out]; exact HO.out, HN.out⟩
        case measure => simp [intOf]; omega
    · obtain rfl : n = k := by omega
      have hki : ¬ (n : Int) < (n : Int) := by omega
      obtain ⟨A', c', rfl, hrd⟩ := own_rdz HO.out rfl
      have RD := Lib.hid hrd
      clear hrd
      go_wp2_with fail
      go_ret
      exact ⟨A', c', rfl, RD.out, HN.out⟩
end Go.Proofs.YtdpccnpaajhliaaDoor
