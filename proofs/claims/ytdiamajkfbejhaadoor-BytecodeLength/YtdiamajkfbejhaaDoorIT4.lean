/- What the functions on 16-bit numbers return. No condition. -/
import Derived.Test.YtdiamajkfbejhaaDoorIT3
import Derived.BigQuiet
namespace Go.Proofs.YtdiamajkfbejhaaDoor
open Go.RowKit

theorem RdY.at0 {w : World} {A : Option Addr} {bs : List UInt8} (h : RdY w A bs) (h0 : 0 < bs.length) : ∃ ad, A = some ad ∧ w.cell? ad = some (.int .u8 ((bs.getD 0 0).toNat : Int)) := by
  obtain ⟨ad, e, hc⟩ := h 0 _ (List.getElem?_eq_getElem h0)
  refine ⟨ad, e, ?_⟩
  rw [Addr.add_zero'] at hc
  rw [hc, List.getD_eq_getElem?_getD, List.getElem?_eq_getElem h0]; rfl
theorem RdY.at1 {w : World} {ad : Addr} {bs : List UInt8} (h : RdY w (some ad) bs) (h0 : 1 < bs.length) : w.cell? ⟨ad.block, ad.off + 1, none⟩ = some (.int .u8 ((bs.getD 1 0).toNat : Int)) := by
  obtain ⟨ad', e, hc⟩ := h 1 _ (List.getElem?_eq_getElem h0)
  obtain rfl := Option.some.inj e
  rw [Addr.add_succ' _ 0] at hc
  rw [List.getD_eq_getElem?_getD, List.getElem?_eq_getElem h0]
  exact hc
theorem or_byte (X Y : Nat) (hx : X < 256) (hy : Y < 256) : bits .or .i64 (X : Int) ((Y : Int) * 256) = (X : Int) + 256 * (Y : Int) := by
  have h1 : (BitVec.ofInt 64 (X : Int)).toNat = X := by
    rw [BitVec.ofInt_natCast, BitVec.toNat_ofNat]; exact Nat.mod_eq_of_lt (by omega)
  have h2 : (BitVec.ofInt 64 ((Y : Int) * 256)).toNat = Y * 256 := by
    rw [show (Y : Int) * 256 = ((Y * 256 : Nat) : Int) by omega, BitVec.ofInt_natCast, BitVec.toNat_ofNat]; exact Nat.mod_eq_of_lt (by omega)
  have h3 : X ||| Y * 256 = Y * 256 + X := by
    have := Nat.shiftLeft_add_eq_or_of_lt (show X < 2 ^ 8 by omega) Y
    rw [Nat.or_comm, ← show Y <<< 8 = Y * 256 from Nat.shiftLeft_eq Y 8]
    exact this.symm
  show IntKind.i64.wrap ((BitVec.ofInt 64 (X : Int) ||| BitVec.ofInt 64 ((Y : Int) * 256)).toNat : Int) = _
  rw [BitVec.toNat_or, h1, h2, h3, IntKind.wrap_i64]
  omega
theorem byt_two (n : Int) : byt (two n) = [.int .u8 (n % 256), .int .u8 (n / 256 % 256)] := by
  simp [byt, two, u8_nat]
set_option maxHeartbeats 800000 in
theorem number_any (A : Option Addr) (bs : List UInt8) (n c : Nat) (hn : bs.length = n) (h2 : 2 ≤ n) (hl : n ≤ maxLen) (w : World) (hr : RdY w A bs) :
    Calls Tryd.prog 52 #[.slice A n c] w fun e w' => e = .returned (.int .i64 (gn bs 0)) ∧ Nx w w' := by
  unfold maxLen at hl
  obtain ⟨ad, rfl, c0⟩ := hr.at0 (by omega)
  have c1 := hr.at1 (by omega)
  have HG := Lib.hid (show gn bs 0 = nb (bs.getD 0 0) (bs.getD 1 0) from rfl)
  generalize bs.getD 0 0 = x at *
  generalize bs.getD 1 0 = y at *
  have h0 : (0 : Int) < (n : Int) := by omega
  have h1 : (1 : Int) < (n : Int) := by omega
  have HQ := Lib.hid (show gn bs 0 = bits .or .i64 (x.toNat : Int) ((y.toNat : Int) * 256) by rw [HG.out, or_byte _ _ x.toNat_lt y.toNat_lt]; rfl)
  clear HG
  have hx := x.toNat_lt
  have hy := y.toNat_lt
  generalize x.toNat = X at *
  generalize y.toNat = Y at *
  clear hr
  go_enter Tryd.func52, Tryd.ntmps52
  go_wp2
  go_quiet (fail)
  go_wp2
  go_ret
  rw [HQ.out]
  exact ⟨rfl, (Nx.refl w).drewN nq⟩

end Go.Proofs.YtdiamajkfbejhaaDoor
