/- The walk of VerifyDepthLimit. Condition: the table of opcodes holds what the program's text lays. -/
import Derived.Test.YtdpccnpaajhliaaDoorIN8
namespace Go.Proofs.YtdpccnpaajhliaaDoor
open Go.RowKit

theorem ins_app7 (a b : List In4) : ins (a ++ b) = ins a ++ ins b := by
  induction a with
  | nil => rfl
  | cons x l ih => simp [ins, ih]
def oI (o : Int) : In4 := ⟨o, 0, 0, 0⟩
def oV (o : Int) : List Value := [.int .i64 o, .int .i64 0, .int .i64 0, .int .i64 0]
def lmA (j : Nat) : List In4 := List.replicate j (oI 8)
def lmB (k j : Nat) : List In4 := List.replicate k (oI 8) ++ List.replicate j (oI 10)
def lmC (k : Nat) (b : Bool) : List In4 := if b then lmB k k ++ [oI 9] else lmB k k
def lmD (k : Nat) (b : Bool) : List In4 := lmC k b ++ [oI 16]
theorem ins_snoc7 (l : List In4) (o : Int) : ins (l ++ [oI o]) = ins l ++ oV o := by rw [ins_app7]; rfl
theorem lmA_succ (j : Nat) : lmA (j + 1) = lmA j ++ [oI 8] := by simp [lmA, List.replicate_succ']
theorem lmB_zero (k : Nat) : lmB k 0 = lmA k := by simp [lmB, lmA]
theorem lmB_succ (k j : Nat) : lmB k (j + 1) = lmB k j ++ [oI 10] := by simp [lmB, List.replicate_succ']
theorem lmA_len (j : Nat) : (lmA j).length = j := by simp [lmA]
theorem lmB_len (k j : Nat) : (lmB k j).length = k + j := by simp [lmB]
theorem lmC_len (k : Nat) (b : Bool) : (lmC k b).length = k + k + (if b then 1 else 0) := by cases b <;> simp [lmC, lmB, Nat.add_assoc]
theorem lmD_len (k : Nat) (b : Bool) : (lmD k b).length = k + k + (if b then 1 else 0) + 1 := by unfold lmD; rw [List.length_append, lmC_len]; rfl

theorem dAt_next {code : List In4} {k : Nat} (h : k < code.length) : dAt code (k + 1) = dNx (dAt code k) (opA code k) := by
  have hx : code[k]? = some code[k] := List.getElem?_eq_getElem h
  rw [dAt_succ hx, opA_at hx]
theorem lmD_eq (k : Nat) (b : Bool) : lmD k b = List.replicate k (oI 8) ++ (List.replicate k (oI 10) ++ ((if b then [oI 9] else []) ++ [oI 16])) := by
  cases b <;> simp [lmD, lmC, lmB]
theorem lm_push {k : Nat} {b : Bool} {j : Nat} (h : j < k) : opA (lmD k b) j = 8 := by
  have : (lmD k b)[j]? = some (oI 8) := by
    rw [lmD_eq, List.getElem?_append_left (by simp; omega), List.getElem?_replicate, if_pos h]
  exact opA_at this
theorem lm_pop {k : Nat} {b : Bool} {j : Nat} (h1 : k ≤ j) (h2 : j < k + k) : opA (lmD k b) j = 10 := by
  have : (lmD k b)[j]? = some (oI 10) := by
    rw [lmD_eq, List.getElem?_append_right (by simp; omega), List.getElem?_append_left (by simp; omega), List.getElem?_replicate, if_pos (by simp; omega)]
  exact opA_at this
theorem lm_more {k : Nat} : opA (lmD k true) (k + k) = 9 := by
  have : (lmD k true)[k + k]? = some (oI 9) := by
    rw [lmD_eq, List.getElem?_append_right (by simp), List.getElem?_append_right (by simp)]
    simp
  exact opA_at this
theorem lm_last {k : Nat} {b : Bool} : opA (lmD k b) ((lmD k b).length - 1) = 16 := by
  have : (lmD k b)[(lmD k b).length - 1]? = some (oI 16) := by
    unfold lmD
    rw [List.length_append, List.getElem?_append_right (by simp)]
    simp
  exact opA_at this
theorem lm_ops {k : Nat} {b : Bool} {j : Nat} {x : In4} (h : (lmD k b)[j]? = some x) : x = oI 8 ∨ x = oI 10 ∨ x = oI 9 ∨ x = oI 16 := by
  have hm := List.mem_of_getElem? h
  unfold lmD lmC lmB at hm
  cases b
  · simp at hm
    rcases hm with ⟨_, h⟩ | ⟨_, h⟩ | h
    · exact .inl h
    · exact .inr (.inl h)
    · exact .inr (.inr (.inr h))
  · simp at hm
    rcases hm with ⟨_, h⟩ | ⟨_, h⟩ | h | h
    · exact .inl h
    · exact .inr (.inl h)
    · exact .inr (.inr (.inl h))
    · exact .inr (.inr (.inr h))
theorem lm_up {k : Nat} {b : Bool} : ∀ {j : Nat}, j ≤ k → dAt (lmD k b) j = j := by
  intro j
  induction j with
  | zero => intro _; exact dAt_zero _
  | succ j ih =>
    intro h
    rw [dAt_next (by rw [lmD_len]; omega), ih (by omega), lm_push (by omega)]
    rfl
theorem lm_down {k : Nat} {b : Bool} : ∀ {j : Nat}, j ≤ k → dAt (lmD k b) (k + j) = k - j := by
  intro j
  induction j with
  | zero => intro _; exact lm_up (Nat.le_refl _)
  | succ j ih =>
    intro h
    rw [← Nat.add_assoc, dAt_next (by rw [lmD_len]; omega), ih (by omega), lm_pop (by omega) (by omega)]
    show k - j - 1 = k - (j + 1)
    omega
theorem chk_plain {o a n : Int} (ho : o = 8 ∨ o = 10 ∨ o = 9 ∨ o = 16) : chk 0 0 0 0 o 0 0 0 a n = 0 := by
  rcases ho with rfl | rfl | rfl | rfl
  all_goals
    unfold chk
    rw [show csz 0 0 0 0 = 0 by decide +kernel, show frm _ = 0 by decide, show cln 0 0 0 0 = true by decide +kernel]
    unfold chk1 chk2
    simp
theorem lm_pt {k : Nat} {b : Bool} (hk : k < 80) : ptA 0 0 0 0 (lmD k b) = ((lmD k b).length, 0) := by
  have hl := lmD_len k b
  have hb : (if b then 1 else 0 : Nat) ≤ 1 := by cases b <;> simp
  have hz : ∀ j, j < (lmD k b).length → ckF 0 0 0 0 (lmD k b) j = 0 := fun j hj => by
    obtain ⟨x, hx⟩ := code_at _ j hj
    rw [ckF_at hx]
    rcases lm_ops hx with rfl | rfl | rfl | rfl
    · exact chk_plain (.inl rfl)
    · exact chk_plain (.inr (.inl rfl))
    · exact chk_plain (.inr (.inr (.inl rfl)))
    · exact chk_plain (.inr (.inr (.inr rfl)))
  unfold ptA
  rw [if_neg (by decide +kernel), if_neg (by omega), if_neg (by omega), fst_none hz, if_neg (by omega)]
theorem lm_jp {k : Nat} {b : Bool} : fst (jpF (lmD k b)) (lmD k b).length = (lmD k b).length := fst_none fun j hj => by
  obtain ⟨x, hx⟩ := code_at _ j hj
  rw [jpF_at hx]
  rcases lm_ops hx with rfl | rfl | rfl | rfl <;> rw [if_neg (by unfold oI; simp)]
theorem lm_ok1 {k : Nat} {b : Bool} {j : Nat} (hj : j < k) (h64 : j < 64) : dFl (lmD k b) j = 0 := by
  unfold dFl
  rw [lm_push hj, lm_up (by omega)]
  unfold dEr
  rw [if_pos rfl, if_neg (by omega)]
theorem lm_ok2 {k : Nat} {b : Bool} {j : Nat} (h1 : k ≤ j) (h2 : j < k + k) : dFl (lmD k b) j = 0 := by
  obtain ⟨i, rfl⟩ : ∃ i, j = k + i := ⟨j - k, by omega⟩
  unfold dFl
  rw [lm_pop h1 h2, lm_down (by omega)]
  unfold dEr
  rw [if_neg (by decide), if_pos (.inr rfl), if_neg (by omega)]
theorem foldl_max_is (l : List Nat) (m : Nat) : ∀ a, a ≤ m → (∀ x ∈ l, x ≤ m) → (a = m ∨ m ∈ l) → l.foldl max a = m := by
  induction l with
  | nil => intro a _ _ h; rcases h with h | h; exact h; cases h
  | cons y l ih =>
    intro a ha hx h
    rw [List.foldl_cons]
    have hy := hx y (List.mem_cons_self ..)
    refine ih _ (by omega) (fun x hm => hx x (List.mem_cons_of_mem _ hm)) ?_
    rcases h with h | h
    · left; omega
    · rcases List.mem_cons.1 h with h | h
      · left; omega
      · right; exact h
theorem lm_max {k : Nat} : mxD (lmD k false) = k := by
  unfold mxD
  have hl := lmD_len k false
  simp only [Bool.false_eq_true, if_false, Nat.add_zero] at hl
  refine foldl_max_is _ k 0 (Nat.zero_le _) (fun x hx => ?_) (.inr ?_)
  · obtain ⟨j, hj, rfl⟩ := List.mem_map.1 hx
    rw [List.mem_range, hl] at hj
    by_cases h : j ≤ k
    · rw [lm_up h]; exact h
    · obtain ⟨i, rfl⟩ : ∃ i, j = k + i := ⟨j - k, by omega⟩
      rw [lm_down (by omega)]; omega
  · exact List.mem_map.2 ⟨k, by rw [List.mem_range, hl]; omega, lm_up (Nat.le_refl _)⟩
theorem lm_deep {k : Nat} {b : Bool} (hk : k < 80) (h : 64 < k) : ckA 0 0 0 0 (lmD k b) = (0, 64, 16) := by
  have hl := lmD_len k b
  have h0 : dFl (lmD k b) 64 = 16 := by
    unfold dFl; rw [lm_push h, lm_up (by omega)]; rfl
  have hf : fst (dFl (lmD k b)) (lmD k b).length = 64 := fst_at (by omega) (fun j hj => lm_ok1 (by omega) hj) (by rw [h0]; decide)
  unfold ckA
  rw [lm_pt hk, if_neg (by simp), hf, if_pos (by omega), h0]
theorem lm_pops {k : Nat} (h : k ≤ 64) : ckA 0 0 0 0 (lmD k true) = (0, k + k, 18) := by
  have hl := lmD_len k true
  simp only [if_true] at hl
  have h0 : dFl (lmD k true) (k + k) = 18 := by
    unfold dFl; rw [lm_more, lm_down (Nat.le_refl _), Nat.sub_self]; rfl
  have hf : fst (dFl (lmD k true)) (lmD k true).length = k + k := fst_at (by omega) (fun j hj => by
    by_cases h1 : j < k
    · exact lm_ok1 h1 (by omega)
    · exact lm_ok2 (by omega) hj) (by rw [h0]; decide)
  unfold ckA
  rw [lm_pt (by omega), if_neg (by simp), hf, if_pos (by omega), h0]
theorem lm_fine {k : Nat} (h : k ≤ 64) : ckA 0 0 0 0 (lmD k false) = (k, k + k + 1, 0) := by
  have hl := lmD_len k false
  simp only [Bool.false_eq_true, if_false, Nat.add_zero] at hl
  have hf : fst (dFl (lmD k false)) (lmD k false).length = (lmD k false).length := fst_none (fun j hj => by
    by_cases h1 : j < k
    · exact lm_ok1 h1 (by omega)
    · by_cases h2 : j < k + k
      · exact lm_ok2 (by omega) h2
      · obtain rfl : j = (lmD k false).length - 1 := by omega
        unfold dFl
        rw [lm_last]
        rfl)
  unfold ckA
  rw [lm_pt (by omega), if_neg (by simp), hf, if_neg (by omega), lm_jp, if_neg (by omega), lm_last, if_neg (by simp), lm_max, hl]
end Go.Proofs.YtdpccnpaajhliaaDoor
