/- The rule for a region in any order, where what an operation yields is said beside what it waited for has yielded. Conditions: as in R0. -/
import Derived.Test.YtndapcbjcannhaaR0
namespace Go.Proofs.Ytndapcbjcannhaa
open Go.RowKit

section
variable {P : Program} {ops : Array Oper} {Q : Exit → Act → World → Prop}

/-- What operation j may look at: what it waits for, and what that may look at. -/
def seeB (ops : Array Oper) (see : Nat → List Nat) : Bool := (List.range ops.size).all fun j => (see j).all fun k =>
  ((ops[j]?).map fun o => o.after.any fun e => Region.binds .any e && (e.on == k || (see e.on).contains k)).getD false
theorem see_spec {see : Nat → List Nat} (h : seeB ops see = true) {j : Nat} {o : Oper} (ho : ops[j]? = some o) {k : Nat} (hk : k ∈ see j) : ∃ e ∈ o.after, Region.binds .any e = true ∧ (e.on = k ∨ k ∈ see e.on) := by
  have hj : j < ops.size := (Array.getElem?_eq_some_iff.1 ho).1
  have h1 := (List.all_eq_true.1 ((List.all_eq_true.1 h) j (by simpa using hj))) k hk
  rw [ho] at h1
  simp only [Option.map_some, Option.getD_some] at h1
  rw [Array.any_eq_true'] at h1
  obtain ⟨e, he, h2⟩ := h1
  simp only [Bool.and_eq_true, Bool.or_eq_true, beq_iff_eq, List.contains_iff_mem] at h2
  exact ⟨e, he, h2.1, h2.2⟩
theorem getD_set_keep {listed : Array Bool} {i j : Nat} (h : listed.getD j false = true) : (listed.setIfInBounds i true).getD j false = true := by
  by_cases e : i = j
  · subst e
    by_cases hi : i < listed.size
    · simp [Array.getD_eq_getD_getElem?, hi]
    · simp [Array.getD, hi] at h
  · rw [getD_set_ne e]; exact h

theorem wpAny_inv2 (hb : backB ops = true) (see : Nat → List Nat) (hsee : seeB ops see = true) (φ : Nat → Act → World → Prop) (J : Act → World → Prop)
    (step : ∀ i o, ops[i]? = some o → ∀ a w K, J a w → (∀ e ∈ o.after, Region.binds .any e = true → φ e.on a w) →
      (∀ a' w', J a' w' → φ i a' w' → (∀ j, j < ops.size → j ≠ i → i ∉ see j → φ j a w → φ j a' w') → K a' w') → o.wp P a w K Q)
    (fin : ∀ a w, J a w → (∀ j, j < ops.size → φ j a w) → Q .normal a w) :
    ∀ (fuel : Nat) (listed : Array Bool) (a : Act) (w : World), listed.size = ops.size → lft listed ≤ fuel → J a w → (∀ j, j < ops.size → listed.getD j false = true → φ j a w) →
      (∀ j, listed.getD j false = true → ∀ k ∈ see j, listed.getD k false = true) → wpAny P .any ops Q fuel listed a w := by
  intro fuel
  induction fuel with
  | zero =>
    intro listed a w hs hf hJ hφ hC
    have hall : ∀ j, j < ops.size → listed.getD j false = true := fun j hj => lft_zero (by omega) (by omega)
    refine ⟨?_, fin a w hJ (fun j hj => hφ j hj (hall j hj))⟩
    rw [List.eq_nil_iff_forall_not_mem]
    intro i hi
    obtain ⟨h1, h2, _⟩ := ready_spec hi
    rw [getD_flip (by omega), hall i h1] at h2
    cases h2
  | succ fuel ih =>
    intro listed a w hs hf hJ hφ hC
    refine ⟨fun h0 => fin a w hJ (fun j hj => hφ j hj (all_listed hb hs h0 j hj)), fun i hi => ?_⟩
    obtain ⟨h1, h2, h3⟩ := ready_spec hi
    obtain ⟨o, ho⟩ : ∃ o, ops[i]? = some o := ⟨ops[i], Array.getElem?_eq_getElem h1⟩
    have hni : listed.getD i false = false := by rw [← getD_flip (by omega)]; exact h2
    unfold wpOp
    rw [ho]
    simp only []
    rw [if_pos (by simp [Region.wanted, (back_spec hb ho).1])]
    refine Or.inl (step i o ho a w _ hJ (fun e he hbd => ?_) (fun a' w' hJ' hφ' hk => ?_))
    · exact hφ e.on (by have := (back_spec hb ho).2 e he; omega) (h3 o ho e he hbd)
    · refine ih _ a' w' (by simpa using hs) ?_ hJ' (fun j hj hl => ?_) (fun j hl k hkj => ?_)
      · have := lft_set (by omega) h2
        omega
      · by_cases hji : j = i
        · subst hji; exact hφ'
        · rw [getD_set_ne (fun e => hji e.symm)] at hl
          exact hk j hj hji (fun hm => by rw [hC j hl i hm] at hni; cases hni) (hφ j hj hl)
      · by_cases hji : j = i
        · subst hji
          obtain ⟨e, he, hbd, hor⟩ := see_spec hsee ho hkj
          have hle := h3 o ho e he hbd
          refine getD_set_keep ?_
          rcases hor with rfl | hm
          · exact hle
          · exact hC e.on hle k hm
        · rw [getD_set_ne (fun e => hji e.symm)] at hl
          exact getD_set_keep (hC j hl k hkj)

/-- What each operation has yielded. -/
def view (ops : Array Oper) (a : Act) : Nat → Value := fun k => slotOf ops k a
def upd (f : Nat → Value) (i : Nat) (v : Value) : Nat → Value := fun k => if k = i then v else f k
theorem view_put {n : Nat} (hA : apartB ops n = true) {a1 : Act} (hn : a1.tmps.size = n) {i : Nat} {o : Oper} (ho : ops[i]? = some o) (v : Value) (hv : o.dst = none → v = undef) : view ops (a1.put o.dst v) = upd (view ops a1) i v := by
  funext k
  unfold view upd
  by_cases hk : k = i
  · subst hk
    rw [if_pos rfl]
    cases hd : o.dst with
    | none => unfold slotOf; rw [ho, Option.bind_some, hd, hv hd]
    | some d => rw [← hd]; exact slot_same ho hd (by rw [hn]; exact (apart_spec hA ho hd).1) v
  · rw [if_neg hk]
    by_cases hs : k < ops.size
    · exact slot_other hA ho hs hk v
    · have e : ops[k]? = none := Array.getElem?_eq_none (by omega)
      show slotOf ops k _ = slotOf ops k _
      unfold slotOf
      rw [e]
      rfl

/-- THE RULE. -/
theorem wp_region_see {id : Nat} {a : Act} {w : World} (hm : P.follows .mixedOrders = true) (hb : backB ops = true) (hA : apartB ops a.tmps.size = true)
    (see : Nat → List Nat) (hsee : seeB ops see = true)
    (Rel : World → World → Prop) (hN : ∀ w w', Nx w w' → Rel w w') (hT : ∀ u v w, Rel u v → Rel v w → Rel u w)
    (st : Nat) (J : World → Prop) (psi : Nat → (Nat → Value) → World → Prop)
    (kV : ∀ j f f' w, f j = f' j → (∀ k ∈ see j, f k = f' k) → psi j f w → psi j f' w)
    (k1 : ∀ j f w w', j ≠ st → Rel w w' → psi j f w → psi j f w') (k2 : ∀ f w w', Nx w w' → psi st f w → psi st f w')
    (kJ : ∀ w w', Nx w w' → J w → J w') (hJ : J w)
    (step : ∀ i o, ops[i]? = some o → ∀ a1 w1 K, Fr a ops a1 → J w1 → Rel w w1 → (∀ e ∈ o.after, Region.binds .any e = true → psi e.on (view ops a1) w1) →
      (∀ v w2, (i ≠ st → Nx w1 w2) → (i = st → Rel w1 w2 ∧ J w2) → psi i (upd (view ops a1) i v) w2 → (o.dst = none → v = undef) → K (a1.put o.dst v) w2) → o.wp P a1 w1 K Q)
    (fin : ∀ a1 w1, Fr a ops a1 → J w1 → Rel w w1 → (∀ j, j < ops.size → psi j (view ops a1) w1) → Q .normal a1 w1) : (Code.region id ops true).wp P Q a w := by
  have hw : Nx w { w with drawn := w.drawn + 1 } := (Nx.refl w).drew
  refine wp_region_any hm (wpAny_inv2 hb see hsee (fun j a1 w1 => psi j (view ops a1) w1) (fun a1 w1 => Fr a ops a1 ∧ J w1 ∧ Rel w w1)
    (fun i o ho a1 w1 K hF hE hK => ?_) (fun a1 w1 hF h => fin a1 w1 hF.1 hF.2.1 hF.2.2 h) ops.size (Array.replicate ops.size false) a _ (by simp) ?_ ⟨⟨rfl, rfl, fun _ _ => rfl⟩, kJ _ _ hw hJ, hN _ _ hw⟩ ?_ ?_)
  · refine step i o ho a1 w1 K hF.1 hF.2.1 hF.2.2 hE (fun v w2 h1 h2 h3 h4 => hK _ _ ⟨hF.1.put ho v, ?_, hT _ _ _ hF.2.2 ?_⟩ ?_ (fun j hj hji hns hp => ?_))
    · by_cases e : i = st
      · exact (h2 e).2
      · exact kJ _ _ (h1 e) hF.2.1
    · by_cases e : i = st
      · exact (h2 e).1
      · exact hN _ _ (h1 e)
    · rw [view_put hA hF.1.2.1 ho v h4]
      exact h3
    · rw [view_put hA hF.1.2.1 ho v h4]
      have hp' : psi j (upd (view ops a1) i v) w1 := kV j _ _ w1 (by unfold upd; rw [if_neg hji]) (fun k hk => by unfold upd; rw [if_neg (fun e => hns (by rw [← e]; exact hk))]) hp
      by_cases e : i = st
      · exact k1 j _ _ _ (by omega) (h2 e).1 hp'
      · by_cases e2 : j = st
        · subst e2; exact k2 _ _ _ (h1 e) hp'
        · exact k1 j _ _ _ e2 (hN _ _ (h1 e)) hp'
  · unfold lft
    exact Nat.le_trans (List.countP_le_length) (by simp)
  · intro j hj hl
    simp [Array.getD, hj] at hl
  · intro j hl k hk
    by_cases hj : j < ops.size
    · simp [Array.getD, hj] at hl
    · simp [Array.getD, hj] at hl
end
end Go.Proofs.Ytndapcbjcannhaa
