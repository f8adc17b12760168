/- The walk of ImageSetChangesOneBit. Conditions: a slice that reads as a list of bools. -/
import Derived.Test.YtndoadkkcmaocaaW4
import Derived.Test.YtndoadkkcmaocaaW5
namespace Go.Proofs.Ytndoadkkcmaocaa
open Go.RowKit

theorem set_same {xs : List Bool} {i : Nat} {v : Bool} (h : xs[i]? = some v) : xs.set i v = xs := by
  obtain ⟨hi, rfl⟩ := List.getElem?_eq_some_iff.1 h
  exact List.set_getElem_self hi
theorem set_at {xs : List Bool} {i : Nat} {v : Bool} (h : i < xs.length) : (xs.set i v)[i]? = some v := by rw [List.getElem?_set]; simp [h]
theorem set_ne {xs : List Bool} {i : Nat} {b v : Bool} (h : xs[i]? = some b) (hb : b ≠ v) : eqB xs (xs.set i v) = false :=
  ne_at h (set_at (List.getElem?_eq_some_iff.1 h).1) hb
theorem dif_self (xs : List Bool) : dif xs xs = [] := by unfold dif difK; simp
theorem difK_set {xs : List Bool} {i : Nat} {b v : Bool} (h : xs[i]? = some b) (hb : b ≠ v) : ∀ k, k ≤ xs.length → difK xs (xs.set i v) k = if i < k then [i] else []
  | 0, _ => by simp [difK]
  | k + 1, hk => by
    have ih := difK_set h hb k (by omega)
    obtain ⟨a, ha⟩ := at_some xs k (by omega)
    by_cases e : k = i
    · subst e
      rw [difK_ne h (set_at (by omega)) hb, ih]; simp
    · have h2 : (xs.set i v)[k]? = some a := by rw [List.getElem?_set_ne (by omega)]; exact ha
      rw [difK_eq ha h2, ih]
      by_cases e2 : i < k
      · rw [if_pos e2, if_pos (by omega)]
      · rw [if_neg e2, if_neg (by omega)]
theorem dif_set {xs : List Bool} {i : Nat} {b v : Bool} (h : xs[i]? = some b) (hb : b ≠ v) : dif xs (xs.set i v) = [i] := by
  unfold dif; rw [difK_set h hb _ (Nat.le_refl _), if_pos (List.getElem?_eq_some_iff.1 h).1]
theorem dg_inj : ∀ a b : Bool, dg a = dg b → a = b := by decide
theorem map_dg_inj : ∀ xs ys : List Bool, xs.map dg = ys.map dg → xs = ys
  | [], [], _ => rfl
  | [], _ :: _, h => by simp at h
  | _ :: _, [], h => by simp at h
  | a :: xs, b :: ys, h => by
    simp only [List.map_cons, List.cons.injEq] at h
    rw [dg_inj a b h.1, map_dg_inj xs ys h.2]
theorem B_tx (xs : List Bool) : B (tx xs) = xs.map dg := rfl
theorem txt_ne {xs ys : List Bool} (hx : 0 < xs.length) (hy : 0 < ys.length) (h : eqB xs ys = false) : B (txt xs) ≠ B (txt ys) := by
  rw [txt_pos hx, txt_pos hy, B_tx, B_tx]
  intro e
  rw [map_dg_inj _ _ e, eqB_self] at h; cases h
theorem str_eq {s t : ByteArray} (h : B s = B t) : (s.toList == t.toList) = true := by rw [ByteArray.toList_eq, ByteArray.toList_eq, beq_iff_eq]; exact h
theorem str_ne {s t : ByteArray} (h : B s ≠ B t) : (s.toList == t.toList) = false := by rw [ByteArray.toList_eq, ByteArray.toList_eq, beq_eq_false_iff_ne]; exact h

set_option maxHeartbeats 1600000 in
theorem law8_main (A : Option Addr) (xs : List Bool) (m c : Nat) (hx : xs.length = m) (h0 : 0 < m) (hm : m ≤ 2000) (n : Nat) (hn : n ≤ 65535) (v : Bool) (w : World) (hr : Rd w A xs) :
    Calls Try.prog 8 #[.slice A m c, .int .u16 n, .bool v] w fun e w' => e = .returned (.bool true) ∧ Nx w w' := by
  have h1 : ¬ (2000 : Int) < (m : Int) := by omega
  have h2 : ((m : Int) == 0) = false := by rw [beq_eq_false_iff_ne]; omega
  have h3 : (0 : Int) < (m : Int) := by omega
  have h4 : (0 : Int) ≤ (n : Int) := by omega
  have h5 : (n : Int) ≤ 65535 := by omega
  obtain ⟨i, hi⟩ : ∃ i : Nat, ((n : Int) % (m : Int)) = (i : Int) := ⟨n % m, rfl⟩
  have him : i < m := by have := Nat.mod_lt n h0; omega
  obtain ⟨b, hb⟩ := at_some xs i (by rw [hx]; exact him)
  obtain ⟨ad, hA, hc⟩ := hr i b hb
  subst hA
  have HI := Lib.hid hi
  have HR := Lib.hid hr
  have HC := Lib.hid hc
  have hz : (xs.set i v).length = m := by rw [List.length_set, hx]
  have HZ := Lib.hid hz
  have HT := Lib.hid (fun (w : World) hr => set_m (some ad) xs m c i v hx him (by omega) w hr)
  have HG := Lib.hid (fun (w : World) (g cc : Nat) hr => by have := get_ok (some ⟨g, 0, none⟩) (xs.set i v) cc i v (set_at (by rw [hx]; exact him)) w hr; rwa [hz] at this)
  have HD := Lib.hid (fun (w : World) (g cc : Nat) => diff_any (some ad) (some ⟨g, 0, none⟩) xs (xs.set i v) m m c cc hx hz (by omega) w)
  have HE := Lib.hid (fun (w : World) (g cc : Nat) => equal_any (some ad) (some ⟨g, 0, none⟩) xs (xs.set i v) m m c cc hx hz (by omega) w)
  have HC1 := Lib.hid (fun (w : World) hr => by have := count_any (some ad) xs c (by omega) w hr; rwa [hx] at this)
  have HC2 := Lib.hid (fun (w : World) (g cc : Nat) hr => by have := count_any (some ⟨g, 0, none⟩) (xs.set i v) cc (by omega) w hr; rwa [hz] at this)
  have HF1 := Lib.hid (fun (w : World) hr => by have := format_any (some ad) xs c (by omega) w hr; rwa [hx] at this)
  have HF2 := Lib.hid (fun (w : World) (g cc : Nat) hr => by have := format_any (some ⟨g, 0, none⟩) (xs.set i v) cc (by omega) w hr; rwa [hz] at this)
  have hlen : xs.length = (xs.set i v).length := by rw [hx, hz]
  have HLEN := Lib.hid hlen
  have HS := Lib.hid (fun h : b = v => set_same (xs := xs) (i := i) (v := v) (h ▸ hb))
  have HQ := Lib.hid (fun h : b ≠ v => set_ne hb h)
  have HDN := Lib.hid (fun h : b ≠ v => dif_set hb h)
  have HTX := Lib.hid (fun h : b ≠ v => str_ne (txt_ne (by omega) (by omega) (set_ne hb h)))
  clear hr hx hi hb hz hc hlen
  generalize xs.set i v = zs at *
  go_enter Try.func8, Try.ntmps8
  go_wp2_with fail
  rw [HI.out]
  refine (HT.out _ HR.out).mono ?_
  rintro e w1 ⟨g, cc, rfl, ho, hn1⟩
  have HO := Lib.hid ho
  have HN1 := Lib.hid hn1
  clear ho hn1
  go_wp2_with fail
  refine (HG.out _ _ _ HO.out.rd).mono ?_
  rintro e w1' ⟨rfl, rfl⟩
  go_wp2_with fail
  refine (HD.out _ _ _ (HR.out.nx HN1.out) HO.out.rd).mono ?_
  rintro e w2 (⟨hne, -⟩ | ⟨-, A2, c2, rfl, hr2, hn2⟩)
  · exact absurd HLEN.out hne
  have HN2 := Lib.hid (HN1.out.trans hn2)
  have HO2 := Lib.hid (HO.out.nx hn2)
  have HR2 := Lib.hid hr2
  have hc2 := HN2.out.cell HC.out
  clear hn2 hr2
  have hvv : (v != v) = false := by simp
  by_cases hbv : b = v
  · have hs := HS.out hbv
    subst hbv
    subst hs
    have HD0 := Lib.hid (dif_self zs)
    have HQ0 := Lib.hid (eqB_self zs)
    have hbb : (b == b) = true := by simp
    rw [HD0.out]
    go_wp2_with (first
      | (go_at_call 10; refine (alive_any _).mono ?_; rintro e w3 ⟨rfl, h9⟩; have HN3 := Lib.hid h9; clear h9)
      | (go_at_call 21; refine (HE.out _ _ _ (HR.out.nx (HN2.out.trans HN3.out)) (HO2.out.nx HN3.out).rd).mono ?_; rw [HQ0.out]; rintro e w4 ⟨rfl, hn4⟩; have HN4 := Lib.hid (HN3.out.trans hn4); clear hn4)
      | (go_at_call 22; ((with_reducible refine (HC1.out _ (HR.out.nx (HN2.out.trans HN4.out))).mono ?_); rintro e w5 ⟨rfl, rfl⟩))
      | (go_at_call 22; ((with_reducible refine (HC2.out _ _ _ (HO2.out.nx HN4.out).rd).mono ?_); rintro e w5 ⟨rfl, rfl⟩)))
    go_ret
    exact ⟨rfl, HN2.out.trans HN4.out⟩
  · have HQ0 := Lib.hid (HQ.out hbv)
    have HD0 := Lib.hid (HDN.out hbv)
    have htx := HTX.out hbv
    have hbb : (b == v) = false := by simpa using hbv
    have hbn : (b != v) = true := by simpa using hbv
    obtain ⟨ad2, hA2, hc3⟩ := HR2.out 0 i (by rw [HD0.out]; rfl)
    subst hA2
    have hc4 : w2.cell? ad2 = some (.int .i64 (i : Int)) := by simpa [Addr.add] using hc3
    have HC4 := Lib.hid hc4
    clear hbv hc3 hc4
    rw [HD0.out]
    generalize txt xs = t1 at *
    generalize txt zs = t2 at *
    go_wp2_with (first
      | (go_at_call 10; refine (alive_any _).mono ?_; rintro e w3 ⟨rfl, h9⟩; have HN3 := Lib.hid h9; clear h9)
      | (go_at_call 21; refine (HE.out _ _ _ (HR.out.nx (HN2.out.trans HN3.out)) (HO2.out.nx HN3.out).rd).mono ?_; rw [HQ0.out]; rintro e w4 ⟨rfl, hn4⟩; have HN4 := Lib.hid (HN3.out.trans hn4); have hc5 := HN4.out.cell HC4.out; clear hn4)
      | (go_at_call 13; ((with_reducible refine (HF1.out _ (HR.out.nx (HN2.out.trans HN4.out))).mono ?_); rintro e w5 ⟨rfl, hn5⟩; have HN5 := Lib.hid (HN4.out.trans hn5); clear hn5))
      | (go_at_call 13; ((with_reducible refine (HF2.out _ _ _ (HO2.out.nx HN5.out).rd).mono ?_); rintro e w6 ⟨rfl, hn6⟩; have HN6 := Lib.hid (HN5.out.trans hn6); clear hn6)))
    go_ret
    exact ⟨rfl, HN2.out.trans HN6.out⟩

set_option maxHeartbeats 800000 in
theorem law8 (A : Option Addr) (xs : List Bool) (m c : Nat) (hx : xs.length = m) (n : Int) (wn : (Lit.int .u16 n).wf = true) (v : Bool) (w : World) (hr : Rd w A xs) :
    Calls Try.prog 8 #[.slice A m c, .int .u16 n, .bool v] w fun e w' => e = .returned (.bool true) ∧ Nx w w' := by
  have hb : 0 ≤ n ∧ n ≤ 65535 := by simpa [Lit.wf, IntKind.min, IntKind.max, IntKind.signed, IntKind.bits] using wn
  clear wn
  by_cases h0 : m = 0
  · subst h0
    clear hr hx
    go_enter Try.func8, Try.ntmps8
    go_wp2_with (go_at_call 10; refine (alive_any _).mono ?_; rintro e w' ⟨rfl, h9⟩)
    go_ret
    exact ⟨rfl, h9⟩
  by_cases hm : 2000 < m
  · have h1 : (2000 : Int) < (m : Int) := by omega
    have h2 : ((m : Int) == 0) = false := by rw [beq_eq_false_iff_ne]; omega
    clear hr hx
    go_enter Try.func8, Try.ntmps8
    go_wp2_with (go_at_call 10; refine (alive_any _).mono ?_; rintro e w' ⟨rfl, h9⟩)
    go_ret
    exact ⟨rfl, h9⟩
  obtain ⟨k, rfl⟩ := Int.eq_ofNat_of_zero_le hb.1
  exact law8_main A xs m c hx (by omega) (by omega) k (by omega) v w hr
end Go.Proofs.Ytndoadkkcmaocaa
