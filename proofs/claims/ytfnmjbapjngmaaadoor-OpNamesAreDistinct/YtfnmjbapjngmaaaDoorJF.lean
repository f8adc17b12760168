/- What the reference's Decimal returns for 0 to 255. Conditions: the number is at most 255. -/
import Derived.Test.YtfnmjbapjngmaaaDoorJE
import Derived.Laws.IdiomStrings
namespace Go.Proofs.YtfnmjbapjngmaaaDoor
open Go.RowKit

theorem eta (s : ByteArray) : (⟨(B s).toArray⟩ : ByteArray) = s := by cases s; simp [B]
def strEmpty : Value → Nat | .string s => if s.size = 0 then 1 else 0 | _ => 0
theorem strEmpty_eq (s : ByteArray) : strEmpty (.string s) = if s.size = 0 then 1 else 0 := rfl
theorem strEmpty_no (s : ByteArray) (h : 0 < s.size) : strEmpty (.string s) = 0 := by rw [strEmpty_eq, if_neg (by omega)]
theorem strEmpty_yes (s : ByteArray) (h : s.size = 0) : strEmpty (.string s) = 1 := by rw [strEmpty_eq, if_pos h]

/-- The text of one byte. -/
def one (x : Int) : ByteArray := ⟨#[UInt8.ofNat x.toNat]⟩
theorem one_B (x : Int) : B (one x) = [UInt8.ofNat x.toNat] := rfl
theorem one_size (x : Int) : (one x).size = 1 := rfl
theorem conv1 (w : World) (x : Int) (h0 : 0 ≤ x) (h1 : x < 256) :
    (convert 81 9 (.slice (some ⟨w.heap.size, 0, none⟩) 1 1)).run Tryd.prog (w.alloc (.cells #[.int .u8 x] 5)) = .ok (.string (one x)) (w.alloc (.cells #[.int .u8 x] 5)) := by
  refine run_convert_bytes_back (w.alloc (.cells #[.int .u8 x] 5)) 81 9 5 ⟨w.heap.size, 0, none⟩ 1 [UInt8.ofNat x.toNat] Tryd.underlying81 Tryd.underlying5 Tryd.underlying9 ?_
  intro j hj
  simp at hj
  subst hj
  simp [World.cell?_alloc_new, Addr.add]
  omega

theorem size_append (a b : ByteArray) : (a ++ b).size = a.size + b.size := ByteArray.size_append
theorem B_append (a b : ByteArray) : B (a ++ b) = B a ++ B b := by cases a; cases b; simp [B]

/-- What holds after some rounds of the reference's Decimal: v is left, t is written. -/
def DecRel (u v : Nat) (t : ByteArray) : Prop := (t.size = 0 ∧ v = u) ∨ (0 < t.size ∧ ((v = 0 ∧ Lib.decDigits u = B t) ∨ (0 < v ∧ Lib.decDigits u = Lib.decDigits v ++ B t)))
theorem DecRel.step {u v : Nat} {t : ByteArray} (h : DecRel u v t) (hgo : t.size = 0 ∨ 0 < v) : DecRel u (v / 10) (one (48 + (v : Int) % 10) ++ t) := by
  right
  refine ⟨by rw [size_append, one_size]; omega, ?_⟩
  have e1 : (48 + (v : Int) % 10).toNat = 48 + v % 10 := by omega
  have ed : Lib.decDigits v = if v < 10 then [UInt8.ofNat (48 + v)] else Lib.decDigits (v / 10) ++ [UInt8.ofNat (48 + v % 10)] := by
    rw [Lib.decDigits]; split <;> rfl
  have hu : Lib.decDigits u = Lib.decDigits v ++ B t := by
    rcases h with ⟨h0, rfl⟩ | ⟨h0, ⟨rfl, _⟩ | ⟨_, h⟩⟩
    · have hn : B t = [] := List.eq_nil_of_length_eq_zero (by rw [size_B]; exact h0)
      rw [hn]; simp
    · omega
    · exact h
  rw [B_append, one_B, e1, hu, ed]
  by_cases hv : v < 10
  · left
    refine ⟨by omega, ?_⟩
    rw [if_pos hv, show v % 10 = v from by omega]
  · right
    refine ⟨by omega, ?_⟩
    rw [if_neg hv]; simp
theorem DecRel.done {u v : Nat} {t : ByteArray} (h : DecRel u v t) (h0 : 0 < t.size) (hv : v = 0) : t = ⟨(Lib.decDigits u).toArray⟩ := by
  rcases h with ⟨h1, _⟩ | ⟨_, h⟩
  · omega
  · rcases h with ⟨_, h⟩ | ⟨h, _⟩
    · rw [h, eta]
    · omega
theorem ret_str {a b : ByteArray} (h : a = b) : Ending.returned (.string a) = .returned (.string b) := by rw [h]

set_option maxRecDepth 100000 in
set_option maxHeartbeats 800000 in
theorem decimal_any (u : Nat) (hu : u ≤ 65535) (w : World) :
    Calls Tryd.prog 34 #[.int .i64 u] w fun e w' => e = .returned (.string ⟨(Lib.decDigits u).toArray⟩) ∧ Nx w w' := by
  go_enter Tryd.func34, Tryd.ntmps34
  go_wp2
  go_loopw [0, 3] (fun n s wr => ∃ v : Nat, ∃ t : ByteArray, v ≤ u ∧ n = .int .i64 v ∧ s = .string t ∧ v + t.size ≤ 70000 ∧ Nx w wr ∧ DecRel u v t) (fun n s _ => (intOf n).toNat + strEmpty s)
  case atStart => exact ⟨u, _, Nat.le_refl _, rfl, rfl, by rw [show (ByteArray.mk #[]).size = 0 from rfl]; omega, Nx.refl _, Or.inl ⟨rfl, rfl⟩⟩
  case round =>
    obtain ⟨v, t, hv, rfl, rfl, hts, hnx, hr⟩ := hrel
    have HR := Lib.hid hr
    clear hr
    by_cases hv0 : v = 0
    · subst hv0
      by_cases h0 : t.size = 0
      · have he := isEmpty_yes t h0
        have hsa := size_append (one 48) t
        rw [one_size] at hsa
        have HM := Lib.hid (strEmpty_no (one 48 ++ t) (by omega))
        have HM' := Lib.hid (strEmpty_yes t h0)
        have hcv := conv1 wr 48 (by omega) (by omega)
        have HS := Lib.hid (show DecRel u 0 (one 48 ++ t) from HR.out.step (Or.inl h0))
        have hsz : 0 + (one 48 ++ t).size ≤ 70000 := by omega
        clear hsa
        go_wp2
        go_roundw
        case rel => exact ⟨0, _, by omega, rfl, rfl, hsz, hnx.alloc _, HS.out⟩
        case measure => rw [HM.out, HM'.out]; simp [intOf]
      · have he := isEmpty_no t h0
        have HD := Lib.hid (HR.out.done (by omega) rfl)
        go_wp2
        go_ret
        exact ⟨ret_str HD.out, hnx⟩
    · have hcv := conv1 wr (48 + (v : Int) % 10) (by omega) (by omega)
      have hsa := size_append (one (48 + (v : Int) % 10)) t
      rw [one_size] at hsa
      have HM := Lib.hid (strEmpty_no (one (48 + (v : Int) % 10) ++ t) (by omega))
      have HS := Lib.hid (HR.out.step (Or.inr (by omega)))
      have hsz : v / 10 + (one (48 + (v : Int) % 10) ++ t).size ≤ 70000 := by omega
      have hp : 0 < v := by omega
      have hone : (one (48 + (v : Int) % 10)).size + t.size ≤ 70001 := by rw [one_size]; omega
      clear hsa hv0
      go_wp2
      go_roundw
      case rel => exact ⟨v / 10, _, by omega, by go_num, rfl, hsz, hnx.alloc _, HS.out⟩
      case measure => rw [HM.out]; simp [intOf]; omega
end Go.Proofs.YtfnmjbapjngmaaaDoor
