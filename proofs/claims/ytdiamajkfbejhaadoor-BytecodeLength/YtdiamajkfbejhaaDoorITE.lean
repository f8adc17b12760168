/- What bytes.Equal and bytes.HasPrefix return. Condition: slices that read as lists of bytes. -/
import Derived.Test.YtdiamajkfbejhaaDoorIT4
import Derived.Test.YtdiamajkfbejhaaDoorIT1
namespace Go.Proofs.YtdiamajkfbejhaaDoor
open Go.RowKit

theorem str_eq (a b : List UInt8) : ((⟨a.toArray⟩ : ByteArray).toList == (⟨b.toArray⟩ : ByteArray).toList) = decide (a = b) := by
  rw [ByteArray.toList_eq, ByteArray.toList_eq]
  show (a.toArray.toList == b.toArray.toList) = _
  rw [List.toList_toArray, List.toList_toArray]
  by_cases h : a = b
  · subst h; simp
  · rw [decide_eq_false h, beq_eq_false_iff_ne]; exact h
theorem none_nil {w : World} {A : Option Addr} {bs : List UInt8} (h : RdY w A bs) (hA : A = none) : bs = [] := by
  cases bs with
  | nil => rfl
  | cons x l =>
    obtain ⟨ad, e, _⟩ := h 0 x rfl
    rw [hA] at e; cases e
theorem conv_y' (A : Option Addr) (bs : List UInt8) (n c : Nat) (w : World) (hn : bs.length = n) (h : RdY w A bs) (h0 : A = none → c = 0) :
    (convert 28 9 (.slice A n c)).run Tryd.prog w = .ok (.string ⟨bs.toArray⟩) w := by
  subst hn
  exact conv_y A bs c w h (fun e => ⟨none_nil h e, h0 e⟩)
set_option maxHeartbeats 800000 in
set_option maxRecDepth 100000 in
theorem byEqual_any (A : Option Addr) (a : List UInt8) (n c : Nat) (A' : Option Addr) (b : List UInt8) (n' c' : Nat) (hn : a.length = n) (hn' : b.length = n') (w : World) (ha : RdY w A a) (hb : RdY w A' b) (h0 : A = none → c = 0) (h0' : A' = none → c' = 0) :
    Calls Tryd.prog 51 #[.slice A n c, .slice A' n' c'] w fun r w' => r = .returned (.bool (decide (a = b))) ∧ w = w' := by
  have e1 := conv_y' A a n c w hn ha h0
  have e2 := conv_y' A' b n' c' w hn' hb h0'
  have HQ := Lib.hid (str_eq a b)
  clear ha hb h0 h0' hn hn'
  generalize (⟨a.toArray⟩ : ByteArray) = S at *
  generalize (⟨b.toArray⟩ : ByteArray) = T at *
  go_enter Tryd.func51, Tryd.ntmps51
  go_wp2_with fail
  go_ret
  rw [HQ.out]
  exact ⟨rfl, rfl⟩
set_option maxHeartbeats 800000 in
set_option maxRecDepth 100000 in
theorem hasPrefix_any (A : Option Addr) (bs : List UInt8) (n c : Nat) (ad' : Addr) (hn : bs.length = n) (hl : n ≤ c) (hc : c ≤ maxLen) (w : World) (ha : RdY w A bs) (hb : RdY w (some ad') mgc) :
    Calls Tryd.prog 41 #[.slice A n c, .slice (some ad') 3 3] w fun r w' => r = .returned (.bool (hasM bs)) ∧ w = w' := by
  unfold maxLen at hc
  by_cases h3 : n < 3
  · have HQ := Lib.hid (show hasM bs = false from decide_eq_false (fun e => by
      have := congrArg List.length e
      rw [List.length_take, hn] at this
      have h3' : mgc.length = 3 := rfl
      omega))
    have h1 : (n : Int) < 3 := by omega
    clear ha hb hn
    go_enter Tryd.func41, Tryd.ntmps41
    go_wp2_with fail
    go_ret
    rw [HQ.out]
    exact ⟨rfl, rfl⟩
  obtain ⟨ad, rfl⟩ : ∃ ad, A = some ad := by
    obtain ⟨ad, e, _⟩ := ha.at0 (by omega)
    exact ⟨ad, e⟩
  have HE := Lib.hid (byEqual_any (some ad) (bs.take 3) 3 c (some ad') mgc 3 3 (by rw [List.length_take]; omega) rfl w (fun k b hk => by
    rw [List.getElem?_take] at hk
    split at hk
    · exact ha k b hk
    · cases hk) hb (fun e => by cases e) (fun e => by cases e))
  have h1 : (3 : Int) ≤ (n : Int) := by omega
  have h2 : (3 : Int) ≤ (c : Int) := by omega
  clear ha hb hn
  unfold hasM
  obtain ⟨R, hR⟩ : ∃ R, decide (bs.take 3 = mgc) = R := ⟨_, rfl⟩
  rw [hR] at HE ⊢
  clear hR
  go_enter Tryd.func41, Tryd.ntmps41
  go_wp2_with fail
  refine HE.out.mono ?_
  rintro r w1 ⟨rfl, rfl⟩
  cases R
  all_goals
    go_wp2_with fail
    go_ret
    exact ⟨rfl, rfl⟩
end Go.Proofs.YtdiamajkfbejhaaDoor
