/- The walk of ImageRoundTrip. Conditions: slices that read as lists of bools. -/
import Derived.Test.YtndoadkkcmaocaaP6
namespace Go.Proofs.Ytndoadkkcmaocaa
open Go.RowKit

set_option maxHeartbeats 3200000 in
theorem law6_main (A A2 : Option Addr) (xs ys : List Bool) (m n c d : Nat) (hx : xs.length = m) (hy : ys.length = n) (hm : m ≤ 2000) (hn : n ≤ 2000) (s : ByteArray) (hs2 : s.size ≤ 2000) (w : World) (hr : Rd w A xs) (hs : Rd w A2 ys) :
    Calls Try.prog 6 #[.slice A m c, .slice A2 n d, .string s] w fun e w' => e = .returned (.bool true) ∧ Nx w w' := by
  have h1 : ¬ (2000 : Int) < (m : Int) := by omega
  have h2 : ¬ (2000 : Int) < (n : Int) := by omega
  have h3 : ¬ (2000 : Int) < (s.size : Int) := by omega
  have HR := Lib.hid hr
  have HS := Lib.hid hs
  have HX := Lib.hid hx
  have HY := Lib.hid hy
  obtain ⟨p1, p2⟩ := par_txt xs (by omega)
  have HF := Lib.hid (fun (w : World) hr => by have := format_any A xs c (by omega) w hr; rwa [hx] at this)
  have HP := Lib.hid (fun (w : World) => by have := parse_any (txt xs) w; unfold ParPost at this; rwa [p1, p2, hx] at this)
  have HP2 := Lib.hid (fun (w : World) => parse_any s w)
  have HE := Lib.hid (fun (w : World) (A' : Option Addr) (c' : Nat) => equal_any A' A xs xs m m c' c hx hx (by omega) w)
  have HE2 := Lib.hid (fun (w : World) (A' : Option Addr) (c' : Nat) => equal_any A' A2 ys ys n n c' d hy hy (by omega) w)
  have HQ := Lib.hid (eqB_self xs)
  have HQ2 := Lib.hid (eqB_self ys)
  have HD := Lib.hid (fun w => diff_any A A2 xs ys m n c d hx hy (by omega) w)
  have hpl : (px s).length ≤ 2000 := by
    unfold px; split
    · simp
    · rw [List.length_map, size_B]; omega
  have HF2 := Lib.hid (fun (w : World) (A' : Option Addr) (c' : Nat) hr => format_any A' (px s) c' (by omega) w hr)
  have HTP := Lib.hid (fun h : pc s = 0 => txt_px h)
  have hpc := pc_cases s
  have hfl := fun h : xs.length = ys.length => flips_dif h
  have HFD := Lib.hid hfl
  have HDL := Lib.hid (fun (k u : Nat) (h : (dif xs ys)[k]? = some u) => show u < m by rw [← hx]; exact dif_lt h)
  have hdl := dif_le xs ys
  have hdl2 : (dif xs ys).length ≤ 2000 := by omega
  clear hr hs hx hy p1 p2 hfl hdl
  generalize txt xs = tt at *
  go_enter Try.func6, Try.ntmps6
  go_wp2_with fail
  refine (HF.out _ HR.out).mono ?_
  rintro e w1 ⟨rfl, hn1⟩
  have HN1 := Lib.hid hn1
  clear hn1
  go_wp2_with fail
  refine (HP.out _).mono ?_
  rintro e w2 ⟨A3, c3, rfl, hr3, hn2⟩
  have HN2 := Lib.hid (HN1.out.trans hn2)
  have HR3 := Lib.hid hr3
  clear hn2 hr3
  go_wp2_with fail
  refine (HE.out _ _ _ HR3.out (HR.out.nx HN2.out)).mono ?_
  rw [HQ.out]
  rintro e w3 ⟨rfl, hn3⟩
  have HN3 := Lib.hid (HN2.out.trans hn3)
  clear hn3
  go_wp2_with fail
  refine (HP2.out _).mono ?_
  rintro e w4 ⟨A4, c4, rfl, hr4, hn4⟩
  have HN4 := Lib.hid (HN3.out.trans hn4)
  have HR4 := Lib.hid hr4
  clear hn4 hr4
  generalize pc s = q at *
  rcases hpc with hq | hq
  · have HT := Lib.hid (HTP.out hq)
    subst hq
    generalize px s = pp at *
    go_wp2_with fail
    refine (HF2.out _ _ _ HR4.out).mono ?_
    rintro e w5 ⟨rfl, hn5⟩
    have HW := Lib.hid (HN4.out.trans hn5)
    rw [HT.out]
    clear hn5
    go_wp2_with fail
    refine (HD.out _ (HR.out.nx HW.out) (HS.out.nx HW.out)).mono ?_
    rintro e w6 (⟨hne, rfl, hn6⟩ | ⟨heq, A5, c5, rfl, hr5, hn6⟩)
    · have HN6 := Lib.hid (HW.out.trans hn6)
      have e1 : ((m : Int) == n) = false := by rw [beq_eq_false_iff_ne]; rw [HX.out, HY.out] at hne; omega
      have e2 : ((m : Int) != n) = true := by rw [bne_iff_ne]; rw [HX.out, HY.out] at hne; omega
      clear hn6 hne
      go_wp2_with (go_at_call 10; refine (alive_any _).mono ?_; rintro e w7 ⟨rfl, h9⟩)
      go_ret
      exact ⟨rfl, HN6.out.trans h9⟩
    · have HN6 := Lib.hid (HW.out.trans hn6)
      have HR5 := Lib.hid hr5
      have HFF := Lib.hid (HFD.out heq)
      rw [HX.out, HY.out] at heq
      subst heq
      clear hn6 hr5
      generalize dif xs ys = D at *
      go_wp2
      go_loopw [13, 80] (fun z i wr => ∃ (k : Nat) (Az : Option Addr) (cz : Nat), k ≤ D.length ∧ i = .int .i64 k ∧ z = .slice Az m cz ∧ Rd wr Az (flips xs (D.take k)) ∧ Nx w6 wr) (fun _ i _ => D.length - (intOf i).toNat)
      case atStart => exact ⟨0, A, c, Nat.zero_le _, rfl, rfl, HR.out.nx HN6.out, Nx.refl _⟩
      case round =>
        obtain ⟨k, Az, cz, hk, rfl, rfl, hz, hnx⟩ := hrel
        have HXX := Lib.hid hnx
        have HZ := Lib.hid hz
        have hlen : (flips xs (D.take k)).length = m := by rw [flips_length]; exact HX.out
        by_cases hlt : k < D.length
        · obtain ⟨u, hu⟩ : ∃ u, D[k]? = some u := ⟨D[k], List.getElem?_eq_getElem hlt⟩
          obtain ⟨dd, rfl, hdc⟩ := (HR5.out.nx hnx) k u hu
          have hum := HDL.out k u hu
          obtain ⟨b, hb⟩ := at_some (flips xs (D.take k)) u (by rw [hlen]; exact hum)
          have HST := Lib.hid (show flips xs (D.take (k + 1)) = (flips xs (D.take k)).set u (!b) by rw [flips_step xs D hu, flip_at hb])
          have HG := Lib.hid (fun (w : World) hr => by have := get_ok Az (flips xs (D.take k)) cz u b hb w hr; rwa [hlen] at this)
          have HT := Lib.hid (fun (w : World) hr => set_m Az (flips xs (D.take k)) m cz u (!b) hlen hum (by omega) w hr)
          clear hu hb hlen hz hnx
          generalize flips xs (D.take k) = zs at *
          go_wp2_with (first
            | (go_at_call 16; refine (HG.out _ HZ.out).mono ?_; rintro e w8 ⟨rfl, rfl⟩)
            | (go_at_call 17; refine (HT.out _ HZ.out).mono ?_; rintro e w9 ⟨g, cc, rfl, ho, hn9⟩; have HO := Lib.hid ho; have HN9 := Lib.hid hn9; clear ho hn9))
          go_roundw
          case rel => exact ⟨k + 1, some ⟨g, 0, none⟩, cc, by omega, by go_num, rfl, by rw [HST.out]; exact HO.out.rd, HXX.out.trans HN9.out⟩
          case measure => simp [intOf]; omega
        · rw [List.take_of_length_le (by omega), HFF.out] at hz
          have HZY := Lib.hid hz
          clear hz hnx hlen HZ
          go_wp2_with (first
            | (go_at_call 10; refine (alive_any _).mono ?_; rintro e w7 ⟨rfl, h9⟩; have HN7 := Lib.hid h9; clear h9)
            | (go_at_call 21; refine (HE2.out _ _ _ (HZY.out.nx HN7.out) (HS.out.nx ((HN6.out.trans HXX.out).trans HN7.out))).mono ?_; rw [HQ2.out]; rintro e w8 ⟨rfl, hn8⟩; have HN8 := Lib.hid hn8; clear hn8))
          go_ret
          exact ⟨rfl, ((HN6.out.trans HXX.out).trans HN7.out).trans HN8.out⟩
  · have HW := HN4
    go_wp2_with fail
    refine (HD.out _ (HR.out.nx HW.out) (HS.out.nx HW.out)).mono ?_
    rintro e w6 (⟨hne, rfl, hn6⟩ | ⟨heq, A5, c5, rfl, hr5, hn6⟩)
    · have HN6 := Lib.hid (HW.out.trans hn6)
      have e1 : ((m : Int) == n) = false := by rw [beq_eq_false_iff_ne]; rw [HX.out, HY.out] at hne; omega
      have e2 : ((m : Int) != n) = true := by rw [bne_iff_ne]; rw [HX.out, HY.out] at hne; omega
      clear hn6 hne
      go_wp2_with (go_at_call 10; refine (alive_any _).mono ?_; rintro e w7 ⟨rfl, h9⟩)
      go_ret
      exact ⟨rfl, HN6.out.trans h9⟩
    · have HN6 := Lib.hid (HW.out.trans hn6)
      have HR5 := Lib.hid hr5
      have HFF := Lib.hid (HFD.out heq)
      rw [HX.out, HY.out] at heq
      subst heq
      clear hn6 hr5
      generalize dif xs ys = D at *
      go_wp2
      go_loopw [13, 80] (fun z i wr => ∃ (k : Nat) (Az : Option Addr) (cz : Nat), k ≤ D.length ∧ i = .int .i64 k ∧ z = .slice Az m cz ∧ Rd wr Az (flips xs (D.take k)) ∧ Nx w6 wr) (fun _ i _ => D.length - (intOf i).toNat)
      case atStart => exact ⟨0, A, c, Nat.zero_le _, rfl, rfl, HR.out.nx HN6.out, Nx.refl _⟩
      case round =>
        obtain ⟨k, Az, cz, hk, rfl, rfl, hz, hnx⟩ := hrel
        have HXX := Lib.hid hnx
        have HZ := Lib.hid hz
        have hlen : (flips xs (D.take k)).length = m := by rw [flips_length]; exact HX.out
        by_cases hlt : k < D.length
        · obtain ⟨u, hu⟩ : ∃ u, D[k]? = some u := ⟨D[k], List.getElem?_eq_getElem hlt⟩
          obtain ⟨dd, rfl, hdc⟩ := (HR5.out.nx hnx) k u hu
          have hum := HDL.out k u hu
          obtain ⟨b, hb⟩ := at_some (flips xs (D.take k)) u (by rw [hlen]; exact hum)
          have HST := Lib.hid (show flips xs (D.take (k + 1)) = (flips xs (D.take k)).set u (!b) by rw [flips_step xs D hu, flip_at hb])
          have HG := Lib.hid (fun (w : World) hr => by have := get_ok Az (flips xs (D.take k)) cz u b hb w hr; rwa [hlen] at this)
          have HT := Lib.hid (fun (w : World) hr => set_m Az (flips xs (D.take k)) m cz u (!b) hlen hum (by omega) w hr)
          clear hu hb hlen hz hnx
          generalize flips xs (D.take k) = zs at *
          go_wp2_with (first
            | (go_at_call 16; refine (HG.out _ HZ.out).mono ?_; rintro e w8 ⟨rfl, rfl⟩)
            | (go_at_call 17; refine (HT.out _ HZ.out).mono ?_; rintro e w9 ⟨g, cc, rfl, ho, hn9⟩; have HO := Lib.hid ho; have HN9 := Lib.hid hn9; clear ho hn9))
          go_roundw
          case rel => exact ⟨k + 1, some ⟨g, 0, none⟩, cc, by omega, by go_num, rfl, by rw [HST.out]; exact HO.out.rd, HXX.out.trans HN9.out⟩
          case measure => simp [intOf]; omega
        · rw [List.take_of_length_le (by omega), HFF.out] at hz
          have HZY := Lib.hid hz
          clear hz hnx hlen HZ
          go_wp2_with (first
            | (go_at_call 10; refine (alive_any _).mono ?_; rintro e w7 ⟨rfl, h9⟩; have HN7 := Lib.hid h9; clear h9)
            | (go_at_call 21; refine (HE2.out _ _ _ (HZY.out.nx HN7.out) (HS.out.nx ((HN6.out.trans HXX.out).trans HN7.out))).mono ?_; rw [HQ2.out]; rintro e w8 ⟨rfl, hn8⟩; have HN8 := Lib.hid hn8; clear hn8))
          go_ret
          exact ⟨rfl, ((HN6.out.trans HXX.out).trans HN7.out).trans HN8.out⟩

set_option maxHeartbeats 800000 in
theorem law6 (A A2 : Option Addr) (xs ys : List Bool) (m n c d : Nat) (hx : xs.length = m) (hy : ys.length = n) (s : ByteArray) (w : World) (hr : Rd w A xs) (hs : Rd w A2 ys) :
    Calls Try.prog 6 #[.slice A m c, .slice A2 n d, .string s] w fun e w' => e = .returned (.bool true) ∧ Nx w w' := by
  by_cases hm : 2000 < m
  · have h1 : (2000 : Int) < (m : Int) := by omega
    clear hr hx hy hs
    go_enter Try.func6, Try.ntmps6
    go_wp2_with (go_at_call 10; refine (alive_any _).mono ?_; rintro e w' ⟨rfl, h9⟩)
    go_ret
    exact ⟨rfl, h9⟩
  have h1 : ¬ (2000 : Int) < (m : Int) := by omega
  by_cases hn : 2000 < n
  · have h2 : (2000 : Int) < (n : Int) := by omega
    clear hr hx hy hs
    go_enter Try.func6, Try.ntmps6
    go_wp2_with (go_at_call 10; refine (alive_any _).mono ?_; rintro e w' ⟨rfl, h9⟩)
    go_ret
    exact ⟨rfl, h9⟩
  have h2 : ¬ (2000 : Int) < (n : Int) := by omega
  by_cases hs3 : 2000 < s.size
  · have h3 : (2000 : Int) < (s.size : Int) := by omega
    clear hr hx hy hs
    go_enter Try.func6, Try.ntmps6
    go_wp2_with (go_at_call 10; refine (alive_any _).mono ?_; rintro e w' ⟨rfl, h9⟩)
    go_ret
    exact ⟨rfl, h9⟩
  exact law6_main A A2 xs ys m n c d hx hy (by omega) (by omega) s (by omega) w hr hs
end Go.Proofs.Ytndoadkkcmaocaa
