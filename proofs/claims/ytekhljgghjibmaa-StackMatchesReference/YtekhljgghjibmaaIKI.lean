/- The walk of StackIsLIFO. Condition: a slice whose cells read as a list of integers. -/
import Derived.Test.YtekhljgghjibmaaIKF
namespace Go.Proofs.Ytekhljgghjibmaa
open Go.RowKit

/-- The cells of a slice read as the list xs of values. -/
def RdV (w : World) (A : Option Addr) (xs : List Value) : Prop := ∀ (k : Nat) (u : Value), xs[k]? = some u → ∃ ad, A = some ad ∧ w.cell? (ad.add k) = some u
theorem RdV.nx {w w' : World} {A : Option Addr} {xs : List Value} (h : RdV w A xs) (k : Nx w w') : RdV w' A xs := fun i b hi => by
  obtain ⟨ad, e, hc⟩ := h i b hi
  exact ⟨ad, e, k.cell hc⟩
def vals (q : IntKind) (zs : List Int) : List Value := zs.map (Value.int q)
theorem vals_at {q : IntKind} {zs : List Int} {k : Nat} {z : Int} (h : zs[k]? = some z) : (vals q zs)[k]? = some (.int q z) := by simp [vals, h]
theorem int_at (zs : List Int) (k : Nat) (h : k < zs.length) : ∃ z, zs[k]? = some z := ⟨zs[k], List.getElem?_eq_getElem h⟩
theorem vals_snoc {q : IntKind} {zs : List Int} {k : Nat} {z : Int} (h : zs[k]? = some z) : vals q (zs.take k) ++ [.int q z] = vals q (zs.take (k + 1)) := by
  rw [take_snoc zs k z h]; simp [vals]
theorem vals_len (q : IntKind) (zs : List Int) (k : Nat) (h : k ≤ zs.length) : (vals q (zs.take k)).length = k := by simp [vals]; omega
theorem vals_one (q : IntKind) (zs : List Int) : ∀ u ∈ vals q zs, u.oneCell' = true := by
  intro u hu; obtain ⟨b, _, rfl⟩ := List.mem_map.1 hu; rfl

/-- A stack that this call has made, and nothing else turned. -/
def Own1 (w wr : World) (T E b md : Nat) (xs : List Value) : Prop := ∃ o, Stk wr T E w.heap.size b o 4096 md xs ∧ Nx w wr
theorem own1_push {w wr w' : World} {T E b md : Nat} {o o' : Option Nat} {xs : List Value} (hn : Nx w wr) (hown : ∀ j, o = some j → w.heap.size ≤ j) (hs : Stk w' T E w.heap.size b o' 4096 md xs) (hm : Mv b o wr w') : Own1 w w' T E b md xs :=
  ⟨o', hs, hn.mv hm hs.base_le hown⟩

theorem inc_row {w : World} {base g n c : Nat} {E : TypeId} {q : IntKind} {ys : List Int} (h : w.ownsRow base E 1 (.slice (some ⟨g, 0, none⟩) n c) n (vals q ys)) (k : Nat) (z : Int) :
    (w.setCell ⟨g, k, none⟩ (.int q z)).ownsRow base E 1 (.slice (some ⟨g, 0, none⟩) n c) n (vals q (ys.set k z)) := by
  rw [show vals q (ys.set k z) = (vals q ys).set k (.int q z) by simp [vals, List.map_set]]
  exact (h.stored k (.int q z)).1

set_option maxHeartbeats 3200000 in
theorem law5_main (A : Option Addr) (zs : List Int) (m c : Nat) (hz : zs.length = m) (hm : m ≤ 300) (w : World) (hr : RdV w A (vals .u16 zs)) :
    Calls Try.prog 5 #[.slice A m c] w fun e w' => e = .returned (.bool true) ∧ Nx w w' := by
  have h1 : ¬ (300 : Int) < (m : Int) := by omega
  have HR := Lib.hid hr
  have HZ := Lib.hid hz
  clear hr hz
  go_enter Try.func5, Try.ntmps5
  go_wp2_with fail
  refine (show Calls Try.prog 22 #[.int .i64 4096] w _ from new_ok_u 4096 (by omega) (by omega) w).mono ?_
  rintro e w1 ⟨rfl, hs, hn, _⟩
  have S1 := Lib.hid hs
  have N1 := Lib.hid hn
  clear hs hn
  go_wp2_with fail
  refine (alive5_any _).mono ?_
  rintro e w2 ⟨rfl, hn⟩
  have HT := Lib.hid (show Own1 w w2 84 54 w.heap.size 0 (vals .u16 (zs.take 0)) from ⟨none, S1.out.nx hn, N1.out.trans hn⟩)
  clear hn S1 N1
  generalize hb : w.heap.size = b at *
  have HB := Lib.hid hb
  clear hb
  go_wp2
  go_loopw [34] (fun i wr => ∃ j : Nat, j ≤ m ∧ i = .int .i64 j ∧ Own1 w wr 84 54 b j (vals .u16 (zs.take j))) (fun i _ => m - (intOf i).toNat)
  case atStart => exact ⟨0, Nat.zero_le _, rfl, HT.out⟩
  case round =>
    obtain ⟨j, hj, rfl, o, hs, hn⟩ := hrel
    have S := Lib.hid hs
    have NN := Lib.hid hn
    have OW := Lib.hid (fun i hi => (hs.own_lt i hi).1)
    clear HT
    by_cases hlt : j < m
    · obtain ⟨z, hz⟩ := int_at zs j (by rw [HZ.out]; exact hlt)
      obtain ⟨ad, rfl, hc⟩ := (HR.out.nx hn) j _ (vals_at hz)
      have HZZ := Lib.hid hz
      clear hs hn hz
      go_wp2_with fail
      refine (push_ok_u z _ _ _ _ _ _ _ S.out (by rw [vals_len _ _ _ (by rw [HZ.out]; omega)]; omega) (by omega)).mono ?_
      rintro e w4 ⟨rfl, o4, hs4, _, hm4⟩
      rw [vals_len _ _ _ (by rw [HZ.out]; omega), show max j (j + 1) = j + 1 by omega, vals_snoc HZZ.out] at hs4
      have S4 := Lib.hid hs4
      have N4 := Lib.hid (NN.out.mv hm4 hs4.base_le OW.out)
      clear hs4 hm4
      have hd4 := depth_u _ _ _ _ _ _ _ S4.out
      rw [vals_len _ _ _ (by rw [HZ.out]; omega)] at hd4
      have HD := Lib.hid hd4
      clear hd4
      have e1 : ((j + 1 : Nat) : Int) = (j : Int) + 1 := by omega
      go_wp2_with fail
      refine HD.out.mono ?_
      rintro e w5 ⟨rfl, rfl⟩
      go_wp2_with fail
      refine (all_u _ _ _ _ _ _ _ S4.out (by rw [vals_len _ _ _ (by rw [HZ.out]; omega)]; omega) (vals_one _ _)).mono ?_
      rintro e w6 ⟨rfl, ho6, hn6⟩
      rw [vals_len _ _ _ (by rw [HZ.out]; omega)] at ho6 ⊢
      have S6 := Lib.hid (S4.out.nx hn6)
      have N6 := Lib.hid (N4.out.trans hn6)
      have O6 := Lib.hid ho6
      have hgb : b < w4.heap.size := S4.out.lt
      have G1 := Lib.hid (show w4.heap.size ≠ b by omega)
      have G2 := Lib.hid (show o4 ≠ some w4.heap.size from fun e => by have := (S4.out.own_lt _ e).2; omega)
      have G3 := Lib.hid (show w.heap.size ≤ w4.heap.size from N4.out.size)
      clear ho6 hn6 hgb
      generalize w4.heap.size = g at *
      go_wp2
      go_loopw [54] (fun i wr2 => ∃ q : Nat, q ≤ j + 1 ∧ i = .int .i64 q ∧ ∃ ys : List Int, ys.length = j + 1 ∧ wr2.ownsRow g 54 1 (.slice (some ⟨g, 0, none⟩) (j + 1) (j + 1)) (j + 1) (vals .u16 ys) ∧ Stk wr2 84 54 w.heap.size b o4 4096 (j + 1) (vals .u16 (zs.take (j + 1))) ∧ Nx w wr2) (fun i _ => j + 1 - (intOf i).toNat)
      case atStart => exact ⟨0, Nat.zero_le _, rfl, zs.take (j + 1), (by rw [List.length_take, HZ.out]; omega), O6.out, S6.out, N6.out⟩
      case round =>
        obtain ⟨q, hq, rfl, ys, hy, hoq, hsq, hnq⟩ := hrel
        have SQ := Lib.hid hsq
        have NQ := Lib.hid hnq
        have OQ := Lib.hid hoq
        have HY := Lib.hid hy
        clear hsq hnq hoq
        by_cases hlq : q < j + 1
        · obtain ⟨y, hyy⟩ := int_at ys q (by rw [hy]; exact hlq)
          have c1 : _ = some (Value.int .u16 y) := (OQ.out.cellAt q (by omega)).trans (vals_at hyy)
          have c2 := OQ.out.frozenAt q
          have hqi : (q : Int) < (j : Int) + 1 := by omega
          have INC := Lib.hid (fun z' => inc_row OQ.out q z')
          clear hy hyy
          go_wp2
          go_roundw
          case rel => exact ⟨q + 1, by omega, by go_num, ys.set q _, by rw [List.length_set, HY.out], INC.out _, SQ.out.far G1.out G2.out _, NQ.out.set G3.out _⟩
          case measure => simp [intOf]; omega
        · have hqi : ¬ (q : Int) < (j : Int) + 1 := by omega
          clear hy
          go_wp2
          go_roundw
          case rel => exact ⟨j + 1, by omega, by go_num, o4, SQ.out, NQ.out⟩
          case measure => simp [intOf]; omega
    · obtain rfl : j = m := by omega
      clear hs hn
      go_wp2
      go_loopw [67] (fun i wr => ∃ q : Nat, q ≤ j ∧ i = .int .i64 q ∧ Own1 w wr 84 54 b j (vals .u16 (zs.take (j - q)))) (fun i _ => j - (intOf i).toNat)
      case atStart => exact ⟨0, Nat.zero_le _, rfl, o, S.out, NN.out⟩
      case round =>
        obtain ⟨q, hq, rfl, oq, hsq, hnq⟩ := hrel
        by_cases hlq : q < j
        · obtain ⟨r, hr⟩ : ∃ r, j = q + r + 1 := ⟨j - q - 1, by omega⟩
          obtain ⟨z, hz⟩ := int_at zs r (by rw [HZ.out]; omega)
          obtain ⟨ad, rfl, hc⟩ := HR.out r _ (vals_at hz)
          have HC := Lib.hid hc
          rw [show j - q = r + 1 by omega, ← vals_snoc hz] at hsq
          have e1 : (j : Int) - 1 - (q : Int) = (r : Int) := by omega
          have e2 : (r : Int) < (j : Int) := by omega
          have SQ := Lib.hid hsq
          have NQ := Lib.hid hnq
          have HQR := Lib.hid hr
          have OQ := Lib.hid (fun i hi => (hsq.own_lt i hi).1)
          clear hsq hnq hz hr hc
          go_wp2_with fail
          refine (pop_ok_u _ _ _ _ _ _ _ _ SQ.out (by rw [vals_len _ _ _ (by rw [HZ.out]; omega)]; omega)).mono ?_
          rintro e w8 ⟨rfl, hs8, hm8⟩
          have S8 := Lib.hid hs8
          have N8 := Lib.hid (NQ.out.mv hm8 hs8.base_le OQ.out)
          have hc8 := N8.out.cell HC.out
          clear hs8 hm8
          go_wp2
          go_roundw
          case rel => exact ⟨q + 1, by omega, by go_num, oq, by rw [show j - (q + 1) = r by have := HQR.out; omega]; exact S8.out, N8.out⟩
          case measure => simp [intOf]; omega
        · obtain rfl : q = j := by omega
          rw [Nat.sub_self, List.take_zero] at hsq
          have SQ := Lib.hid hsq
          have NQ := Lib.hid hnq
          clear hsq hnq
          go_wp2_with fail
          refine (depth_u _ _ _ _ _ _ _ SQ.out).mono ?_
          rintro e w8 ⟨rfl, rfl⟩
          go_wp2_with fail
          refine (maxDepth_u _ _ _ _ _ _ _ SQ.out).mono ?_
          rintro e w8 ⟨rfl, rfl⟩
          go_wp2
          go_ret
          exact ⟨rfl, NQ.out⟩

set_option maxHeartbeats 800000 in
theorem law5 (A : Option Addr) (zs : List Int) (m c : Nat) (hz : zs.length = m) (w : World) (hr : RdV w A (vals .u16 zs)) :
    Calls Try.prog 5 #[.slice A m c] w fun e w' => e = .returned (.bool true) ∧ Nx w w' := by
  by_cases hm : m ≤ 300
  · exact law5_main A zs m c hz hm w hr
  · have h1 : (300 : Int) < (m : Int) := by omega
    clear hr hz hm
    go_enter Try.func5, Try.ntmps5
    go_wp2_with fail
    refine (show Calls Try.prog 22 #[.int .i64 4096] w _ from new_ok_u 4096 (by omega) (by omega) w).mono ?_
    rintro e w1 ⟨rfl, _, hn, _⟩
    have N1 := Lib.hid hn
    clear hn
    go_wp2_with fail
    refine (alive5_any _).mono ?_
    rintro e w2 ⟨rfl, hn⟩
    have N2 := Lib.hid (N1.out.trans hn)
    clear hn
    go_wp2_with fail
    refine (alive5_any _).mono ?_
    rintro e w3 ⟨rfl, hn⟩
    have N3 := Lib.hid (N2.out.trans hn)
    clear hn
    go_wp2
    go_ret
    exact ⟨rfl, N3.out⟩
end Go.Proofs.Ytekhljgghjibmaa
