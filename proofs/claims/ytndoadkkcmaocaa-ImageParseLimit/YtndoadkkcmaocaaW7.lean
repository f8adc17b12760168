/- The walk of ImageParseLimit. Conditions: none. -/
import Derived.Test.YtndoadkkcmaocaaP6
import Derived.Test.YtndoadkkcmaocaaShelf
namespace Go.Proofs.Ytndoadkkcmaocaa
open Go.RowKit

/-- c times the digit 1. -/
def ones (c : Nat) : ByteArray := ⟨(Lib.repeatL [49] c).toArray⟩
theorem rep_ones : ∀ c, Lib.repeatL [49] c = List.replicate c 49
  | 0 => rfl
  | c + 1 => by rw [Lib.repeatL, rep_ones c]; rfl
theorem B_ones (c : Nat) : B (ones c) = List.replicate c 49 := by rw [← rep_ones]; rfl
theorem size_ones (c : Nat) : (ones c).size = c := by rw [← size_B, B_ones, List.length_replicate]
theorem par_ones {c : Nat} (h0 : 0 < c) (h : c ≤ 16384) : px (ones c) = List.replicate c true ∧ pc (ones c) = 0 := by
  have := px_ok (s := ones c) (by rw [size_ones]; exact h) (by
    rw [B_ones]
    intro e
    have : (49 : UInt8) ∈ [(45 : UInt8)] := by rw [← e]; exact List.mem_replicate.2 ⟨by omega, rfl⟩
    exact absurd this (by decide)) (by rw [size_ones]; omega) (by rw [B_ones, List.all_replicate]; simp; right; rfl)
  rw [B_ones, List.map_replicate] at this
  exact this
theorem par_more {c : Nat} (h : 16384 < c) : px (ones c) = [] ∧ pc (ones c) = 7 := px_long (by rw [size_ones]; exact h)
theorem cnt_ones (c : Nat) : cnt (List.replicate c true) = c := by unfold cnt; rw [List.countP_replicate]; rfl

set_option maxHeartbeats 1600000 in
theorem law7_c (n : Int) (c : Nat) (hb : 0 ≤ n ∧ n ≤ 255) (hc : 16383 + n % 3 = (c : Int)) (w : World) :
    Calls Try.prog 7 #[.int .u8 n] w fun e w' => e = .returned (.bool true) ∧ Nx w w' := by
  have b0 := hb.1
  have b1 := hb.2
  have c0 : 16383 ≤ c := by omega
  have c1 : c ≤ 16385 := by omega
  have HI := Lib.hid hc
  have HP := Lib.hid (fun (w : World) => parse_any (ones c) w)
  have HRep := Lib.hid (fun (w : World) => Try.strings_Repeat ⟨#[49]⟩ c w (by omega) (by show 1 * c ≤ _; omega))
  clear hb hc
  by_cases hl : 16384 < c
  · obtain ⟨p1, p2⟩ := par_more hl
    have HP1 := Lib.hid p1
    have HP2 := Lib.hid p2
    clear p1 p2
    go_enter Try.func7, Try.ntmps7
    go_wp2_with fail
    rw [HI.out]
    refine (HRep.out _).mono ?_
    rintro e w1 ⟨rfl, hn1⟩
    have HN1 := Lib.hid (show Nx w w1 from hn1)
    clear hn1
    go_wp2_with fail
    refine (HP.out _).mono ?_
    rintro e w2 ⟨A, cc, rfl, hr, hn2⟩
    have HN2 := Lib.hid (HN1.out.trans hn2)
    rw [HP1.out, HP2.out]
    clear hr hn2
    go_wp2_with (go_at_call 10; refine (alive_any _).mono ?_; rintro e w3 ⟨rfl, h9⟩)
    go_ret
    exact ⟨rfl, HN2.out.trans h9⟩
  · obtain ⟨p1, p2⟩ := par_ones (by omega) (show c ≤ 16384 by omega)
    have HP1 := Lib.hid p1
    have HP2 := Lib.hid p2
    have HL := Lib.hid (show (List.replicate c true).length = c from List.length_replicate)
    clear p1 p2
    go_enter Try.func7, Try.ntmps7
    go_wp2_with fail
    rw [HI.out]
    refine (HRep.out _).mono ?_
    rintro e w1 ⟨rfl, hn1⟩
    have HN1 := Lib.hid (show Nx w w1 from hn1)
    clear hn1
    go_wp2_with fail
    refine (HP.out _).mono ?_
    rintro e w2 ⟨A, cc, rfl, hr, hn2⟩
    have HN2 := Lib.hid (HN1.out.trans hn2)
    rw [HP1.out] at hr
    rw [HP1.out, HP2.out, HL.out]
    have HC := Lib.hid (fun (w : World) hr => by have := count_any A (List.replicate c true) cc (by rw [HL.out]; omega) w hr; rwa [HL.out, cnt_ones] at this)
    have HRR := Lib.hid hr
    clear hr hn2
    go_wp2_with (first
      | (go_at_call 10; refine (alive_any _).mono ?_; rintro e w3 ⟨rfl, h9⟩; have HN3 := Lib.hid h9; clear h9)
      | (go_at_call 22; refine (HC.out _ (HRR.out.nx HN3.out)).mono ?_; rintro e w4 ⟨rfl, rfl⟩))
    go_ret
    exact ⟨rfl, HN2.out.trans HN3.out⟩

theorem law7 (n : Int) (wn : (Lit.int .u8 n).wf = true) (w : World) :
    Calls Try.prog 7 #[.int .u8 n] w fun e w' => e = .returned (.bool true) ∧ Nx w w' := by
  have hb : 0 ≤ n ∧ n ≤ 255 := by simpa [Lit.wf, IntKind.min, IntKind.max, IntKind.signed, IntKind.bits] using wn
  obtain ⟨c, hc⟩ := Int.eq_ofNat_of_zero_le (show 0 ≤ 16383 + n % 3 by omega)
  exact law7_c n c hb hc w
end Go.Proofs.Ytndoadkkcmaocaa
