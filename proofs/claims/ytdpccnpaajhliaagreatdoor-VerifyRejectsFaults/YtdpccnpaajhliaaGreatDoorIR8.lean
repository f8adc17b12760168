/- A rule for a region whose operations come in any order, in two parts: before and behind one operation that may turn what the earlier ones yielded, and one operation that waits for all others (an append into a row's spare; a store). Conditions: the edges go backward, no guards, the destinations are apart. -/
import Derived.Test.YtdpccnpaajhliaaGreatDoorMC
namespace Go.Proofs.YtdpccnpaajhliaaGreatDoor
open Go.RowKit

section
variable {P : Program} {ops : Array Oper} {Q : Exit → Act → World → Prop}
theorem wpAny_tlast (hb : backB ops = true) (ls : Nat) (hls : ls < ops.size) (hll : lastB ops ls = true) (see : Nat → List Nat) (hsee : seeB ops see = true) (st : Nat) (φ φ2 : Nat → Act → World → Prop) (J J2 : Act → World → Prop) (hst : st < ops.size) (hne : ls ≠ st)
    (stepA : ∀ i o, i ≠ st → i ≠ ls → st ∉ see i → ops[i]? = some o → ∀ a w K, J a w → (∀ e ∈ o.after, Region.binds .any e = true → φ e.on a w) →
      (∀ a' w', J a' w' → φ i a' w' → (∀ j, j < ops.size → j ≠ i → φ j a w → φ j a' w') → K a' w') → o.wp P a w K Q)
    (stepS : ∀ o, ops[st]? = some o → ∀ a w K, J a w → (∀ e ∈ o.after, Region.binds .any e = true → φ e.on a w) →
      (∀ a' w', J2 a' w' → φ2 st a' w' → (∀ j, j < ops.size → j ≠ st → φ j a w → φ2 j a' w') → K a' w') → o.wp P a w K Q)
    (stepB : ∀ i o, i ≠ st → i ≠ ls → i ∉ see st → ops[i]? = some o → ∀ a w K, J2 a w → (∀ e ∈ o.after, Region.binds .any e = true → φ2 e.on a w) →
      (∀ a' w', J2 a' w' → φ2 i a' w' → (∀ j, j < ops.size → j ≠ i → φ2 j a w → φ2 j a' w') → K a' w') → o.wp P a w K Q)
    (stepL : ∀ o, ops[ls]? = some o → ∀ a w K, J2 a w → (∀ j, j < ops.size → j ≠ ls → φ2 j a w) → (∀ a' w', Q .normal a' w' → K a' w') → o.wp P a w K Q) :
    ∀ (fuel : Nat) (listed : Array Bool) (a : Act) (w : World), listed.size = ops.size → lft listed ≤ fuel → listed.getD ls false = false →
      ((listed.getD st false = false ∧ J a w ∧ ∀ j, j < ops.size → listed.getD j false = true → φ j a w) ∨ (listed.getD st false = true ∧ J2 a w ∧ ∀ j, j < ops.size → listed.getD j false = true → φ2 j a w)) →
      (∀ j, listed.getD j false = true → ∀ k ∈ see j, listed.getD k false = true) → wpAny P .any ops Q fuel listed a w := by
  intro fuel
  induction fuel with
  | zero =>
    intro listed a w hs hf hn
    have := lft_zero (listed := listed) (by omega) (by omega) (i := ls)
    rw [hn] at this
    cases this
  | succ fuel ih =>
    intro listed a w hs hf hN hI hC
    refine ⟨fun h0 => ?_, fun i hi => ?_⟩
    · have hall := all_listed hb hs h0 ls hls
      rw [hN] at hall
      cases hall
    obtain ⟨h1, h2, h3⟩ := ready_spec hi
    obtain ⟨o, ho⟩ : ∃ o, ops[i]? = some o := ⟨ops[i], Array.getElem?_eq_getElem h1⟩
    have hni : listed.getD i false = false := by rw [← getD_flip (by omega)]; exact h2
    have hlt : lft (listed.setIfInBounds i true) ≤ fuel := by
      have := lft_set (by omega) h2
      omega
    have hC' : ∀ j, (listed.setIfInBounds i true).getD j false = true → ∀ k ∈ see j, (listed.setIfInBounds i true).getD k false = true := fun j hl k hkj => by
      by_cases hji : j = i
      · subst hji
        obtain ⟨e, he, hbd, hor⟩ := see_spec hsee ho hkj
        have hle := h3 o ho e he hbd
        refine getD_set_keep ?_
        rcases hor with rfl | hm
        · exact hle
        · exact hC e.on hle k hm
      · rw [getD_set_ne (fun e => hji e.symm)] at hl
        exact getD_set_keep (hC j hl k hkj)
    unfold wpOp
    rw [ho]
    simp only []
    rw [if_pos (by simp [Region.wanted, (back_spec hb ho).1])]
    refine Or.inl ?_
    by_cases hil : i = ls
    · subst hil
      have hall : ∀ j, j < ops.size → j ≠ i → listed.getD j false = true := fun j hj hne => by
        obtain ⟨e, he, hbd, rfl⟩ := last_spec hll hj hne ho
        exact h3 o ho e he hbd
      rcases hI with ⟨hn, _, _⟩ | ⟨_, hJ, hφ⟩
      · rw [hall st hst (Ne.symm hne)] at hn; cases hn
      · refine stepL o ho a w _ hJ (fun j hj hji => hφ j hj (hall j hj hji)) (fun a' w' hq => wpAny_all (by simpa using hs) (fun j hj => ?_) hq)
        by_cases hji : j = i
        · subst hji; simp [Array.getD_eq_getD_getElem?, hs, hj]
        · exact getD_set_keep (hall j hj hji)
    have hN' : (listed.setIfInBounds i true).getD ls false = false := by rw [getD_set_ne hil]; exact hN
    rcases hI with ⟨hn, hJ, hφ⟩ | ⟨hy, hJ, hφ⟩
    · have hdep : ∀ e ∈ o.after, Region.binds .any e = true → φ e.on a w := fun e he hbd => hφ e.on (by have := (back_spec hb ho).2 e he; omega) (h3 o ho e he hbd)
      by_cases e : i = st
      · subst e
        refine stepS o ho a w _ hJ hdep (fun a' w' hJ' hφ' hk => ih _ a' w' (by simpa using hs) hlt hN' (.inr ⟨by simp [Array.getD_eq_getD_getElem?, hs, h1], hJ', fun j hj hl => ?_⟩) hC')
        by_cases hji : j = i
        · subst hji; exact hφ'
        · rw [getD_set_ne (fun e => hji e.symm)] at hl
          exact hk j hj hji (hφ j hj hl)
      · have hns : st ∉ see i := fun hm => by
          obtain ⟨e', he, hbd, hor⟩ := see_spec hsee ho hm
          have hle := h3 o ho e' he hbd
          have : listed.getD st false = true := by
            rcases hor with rfl | hm'
            · exact hle
            · exact hC e'.on hle st hm'
          rw [hn] at this; cases this
        refine stepA i o e hil hns ho a w _ hJ hdep (fun a' w' hJ' hφ' hk => ih _ a' w' (by simpa using hs) hlt hN' (.inl ⟨by rw [getD_set_ne e]; exact hn, hJ', fun j hj hl => ?_⟩) hC')
        by_cases hji : j = i
        · subst hji; exact hφ'
        · rw [getD_set_ne (fun e => hji e.symm)] at hl
          exact hk j hj hji (hφ j hj hl)
    · have hdep : ∀ e ∈ o.after, Region.binds .any e = true → φ2 e.on a w := fun e he hbd => hφ e.on (by have := (back_spec hb ho).2 e he; omega) (h3 o ho e he hbd)
      have e : i ≠ st := fun e => by subst e; rw [hni] at hy; cases hy
      refine stepB i o e hil (fun hm => by rw [hC st hy i hm] at hni; cases hni) ho a w _ hJ hdep (fun a' w' hJ' hφ' hk => ih _ a' w' (by simpa using hs) hlt hN' (.inr ⟨by rw [getD_set_ne e]; exact hy, hJ', fun j hj hl => ?_⟩) hC')
      by_cases hji : j = i
      · subst hji; exact hφ'
      · rw [getD_set_ne (fun e => hji e.symm)] at hl
        exact hk j hj hji (hφ j hj hl)

theorem wp_region_tlast {id : Nat} {a : Act} {w : World} (hm : P.follows .mixedOrders = true) (hb : backB ops = true) (hA : apartB ops a.tmps.size = true) (see : Nat → List Nat) (hsee : seeB ops see = true) (ls : Nat) (hls : ls < ops.size) (hll : lastB ops ls = true) (st : Nat) (hst : st < ops.size) (hne : ls ≠ st)
    (psi psi2 : Nat → Value → World → Prop) (J2 : World → Prop) (k1 : ∀ j v w w', Nx w w' → psi j v w → psi j v w')
    (stepA : ∀ i o, i ≠ st → i ≠ ls → st ∉ see i → ops[i]? = some o → ∀ a1 w1 K, Fr a ops a1 → Nx w w1 → (∀ e ∈ o.after, Region.binds .any e = true → psi e.on (view ops a1 e.on) w1) →
      (∀ v w2, Nx w1 w2 → psi i v w2 → (o.dst = none → v = undef) → K (a1.put o.dst v) w2) → o.wp P a1 w1 K Q)
    (stepS : ∀ o, ops[st]? = some o → ∀ a1 w1 K, Fr a ops a1 → Nx w w1 → (∀ e ∈ o.after, Region.binds .any e = true → psi e.on (view ops a1 e.on) w1) →
      (∀ v w2, J2 w2 → psi2 st v w2 → (∀ j v', psi j v' w1 → psi2 j v' w2) → (o.dst = none → v = undef) → K (a1.put o.dst v) w2) → o.wp P a1 w1 K Q)
    (stepB : ∀ i o, i ≠ st → i ≠ ls → i ∉ see st → ops[i]? = some o → ∀ a1 w1 K, Fr a ops a1 → J2 w1 → (∀ e ∈ o.after, Region.binds .any e = true → psi2 e.on (view ops a1 e.on) w1) →
      (∀ v w2, J2 w2 → psi2 i v w2 → (∀ j v', j ≠ i → psi2 j v' w1 → psi2 j v' w2) → (o.dst = none → v = undef) → K (a1.put o.dst v) w2) → o.wp P a1 w1 K Q)
    (stepL : ∀ o, ops[ls]? = some o → ∀ a1 w1 K, Fr a ops a1 → J2 w1 → (∀ j, j < ops.size → j ≠ ls → psi2 j (view ops a1 j) w1) → (∀ a' w', Q .normal a' w' → K a' w') → o.wp P a1 w1 K Q) : (Code.region id ops true).wp P Q a w := by
  have hw : Nx w { w with drawn := w.drawn + 1 } := (Nx.refl w).drew
  have vi : ∀ {a1 : Act} {i : Nat} {o : Oper} {v : Value}, Fr a ops a1 → ops[i]? = some o → (o.dst = none → v = undef) → view ops (a1.put o.dst v) i = v := fun hF ho h4 => by
    rw [view_put hA hF.2.1 ho _ h4]; exact if_pos rfl
  have vj : ∀ {a1 : Act} {i j : Nat} {o : Oper} {v : Value}, Fr a ops a1 → ops[i]? = some o → (o.dst = none → v = undef) → j ≠ i → view ops (a1.put o.dst v) j = view ops a1 j := fun hF ho h4 hne => by
    rw [view_put hA hF.2.1 ho _ h4]; exact if_neg hne
  refine wp_region_any hm (wpAny_tlast hb ls hls hll see hsee st (fun j a1 w1 => psi j (view ops a1 j) w1) (fun j a1 w1 => psi2 j (view ops a1 j) w1) (fun a1 w1 => Fr a ops a1 ∧ Nx w w1) (fun a1 w1 => Fr a ops a1 ∧ J2 w1) hst hne
    (fun i o hi hil hs ho a1 w1 K hF hE hK => ?_) (fun o ho a1 w1 K hF hE hK => ?_) (fun i o hi hil hs ho a1 w1 K hF hE hK => ?_) (fun o ho a1 w1 K hF h hK => stepL o ho a1 w1 K hF.1 hF.2 h hK)
    ops.size (Array.replicate ops.size false) a _ (by simp) ?_ (by simp [Array.getD, hls]) (.inl ⟨?_, ⟨⟨rfl, rfl, fun _ _ => rfl⟩, hw⟩, ?_⟩) ?_)
  · refine stepA i o hi hil hs ho a1 w1 K hF.1 hF.2 hE (fun v w2 h1 h3 h4 => hK _ _ ⟨hF.1.put ho v, hF.2.trans h1⟩ ?_ (fun j hj hji hp => ?_))
    · show psi i (view ops (a1.put o.dst v) i) w2
      rw [vi hF.1 ho h4]; exact h3
    · show psi j (view ops (a1.put o.dst v) j) w2
      rw [vj hF.1 ho h4 hji]; exact k1 j _ _ _ h1 hp
  · refine stepS o ho a1 w1 K hF.1 hF.2 hE (fun v w2 h1 h2 h3 h4 => hK _ _ ⟨hF.1.put ho v, h1⟩ ?_ (fun j hj hji hp => ?_))
    · show psi2 st (view ops (a1.put o.dst v) st) w2
      rw [vi hF.1 ho h4]; exact h2
    · show psi2 j (view ops (a1.put o.dst v) j) w2
      rw [vj hF.1 ho h4 hji]; exact h3 j _ hp
  · refine stepB i o hi hil hs ho a1 w1 K hF.1 hF.2 hE (fun v w2 h1 h2 h3 h4 => hK _ _ ⟨hF.1.put ho v, h1⟩ ?_ (fun j hj hji hp => ?_))
    · show psi2 i (view ops (a1.put o.dst v) i) w2
      rw [vi hF.1 ho h4]; exact h2
    · show psi2 j (view ops (a1.put o.dst v) j) w2
      rw [vj hF.1 ho h4 hji]; exact h3 j _ hji hp
  · unfold lft
    exact Nat.le_trans (List.countP_le_length) (by simp)
  · simp [Array.getD, hst]
  · intro j hj hlj
    simp [Array.getD, hj] at hlj
  · intro j hl k hk
    by_cases hj : j < ops.size
    · simp [Array.getD, hj] at hl
    · simp [Array.getD, hj] at hl
end
end Go.Proofs.YtdpccnpaajhliaaGreatDoor
