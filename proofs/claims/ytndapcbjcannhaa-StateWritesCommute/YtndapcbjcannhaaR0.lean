/- A rule for a region whose operations come in any order: what each operation yields is said once, and holds whatever comes beside. Conditions: the edges go backward, no guards, the destinations are apart. -/
import Derived.Test.YtndapcbjcannhaaS0
import Derived.Orders
import Derived.RegionTactic
namespace Go.Proofs.Ytndapcbjcannhaa
open Go.RowKit

section
variable {P : Program} {ops : Array Oper} {Q : Exit → Act → World → Prop}

/-- Each operation waits for earlier ones alone, and none is guarded. -/
def backB (ops : Array Oper) : Bool := (List.range ops.size).all fun i => ((ops[i]?).map fun o => o.guard.isNone && o.after.all fun e => decide (e.on < i)).getD true
theorem back_spec (h : backB ops = true) {i : Nat} {o : Oper} (ho : ops[i]? = some o) : o.guard = none ∧ ∀ e ∈ o.after, e.on < i := by
  have hi : i < ops.size := (Array.getElem?_eq_some_iff.1 ho).1
  have := (List.all_eq_true.1 h) i (by simpa using hi)
  rw [ho] at this
  simp only [Option.map_some, Option.getD_some, Bool.and_eq_true, Option.isNone_iff_eq_none] at this
  refine ⟨this.1, fun e he => ?_⟩
  have h2 := this.2
  rw [Array.all_eq_true'] at h2
  exact of_decide_eq_true (h2 e he)

theorem ready_spec {listed : Array Bool} {i : Nat} (h : i ∈ Region.ready .any ops listed) : i < ops.size ∧ listed.getD i true = false ∧ ∀ o, ops[i]? = some o → ∀ e ∈ o.after, Region.binds .any e = true → listed.getD e.on false = true := by
  unfold Region.ready at h
  rw [List.mem_filter] at h
  obtain ⟨h1, h2⟩ := h
  have hi : i < ops.size := by simpa using h1
  simp only [Bool.and_eq_true, Bool.not_eq_true'] at h2
  refine ⟨hi, h2.1, fun o ho e he hb => ?_⟩
  have h3 := h2.2
  rw [ho] at h3
  simp only [Option.map_some, Option.getD_some] at h3
  rw [Array.all_eq_true'] at h3
  have h4 := h3 e he
  rw [hb] at h4
  simpa using h4
theorem ready_some {listed : Array Bool} {i : Nat} (hi : i < ops.size) (hl : listed.getD i true = false) (hd : ∀ o, ops[i]? = some o → ∀ e ∈ o.after, listed.getD e.on false = true) : i ∈ Region.ready .any ops listed := by
  unfold Region.ready
  rw [List.mem_filter]
  refine ⟨by simpa using hi, ?_⟩
  obtain ⟨o, ho⟩ : ∃ o, ops[i]? = some o := ⟨ops[i], Array.getElem?_eq_getElem hi⟩
  simp only [hl, ho, Bool.not_false, Bool.true_and, Option.map_some, Option.getD_some]
  rw [Array.all_eq_true']
  intro e he
  rw [hd o ho e he, Bool.or_true]
theorem getD_flip {listed : Array Bool} {i : Nat} (hi : i < listed.size) : listed.getD i true = listed.getD i false := by
  simp [Array.getD, hi]
/-- Where nothing is ready, all has been. -/
theorem all_listed (hb : backB ops = true) {listed : Array Bool} (hs : listed.size = ops.size) (h : Region.ready .any ops listed = []) : ∀ i, i < ops.size → listed.getD i false = true := by
  intro i
  induction i using Nat.strongRecOn with
  | _ i ih =>
    intro hi
    cases hl : listed.getD i false with
    | true => rfl
    | false =>
      have : i ∈ Region.ready .any ops listed := ready_some hi (by rw [getD_flip (by omega)]; exact hl) (fun o ho e he => by
        have hlt := (back_spec hb ho).2 e he
        exact ih e.on hlt (by omega))
      rw [h] at this
      cases this

theorem getD_set_ne {listed : Array Bool} {i j : Nat} (h : i ≠ j) : (listed.setIfInBounds i true).getD j false = listed.getD j false := by
  simp [Array.getD_eq_getD_getElem?, h]
def lft (listed : Array Bool) : Nat := listed.toList.countP (fun b => !b)
theorem lft_set {listed : Array Bool} {i : Nat} (hi : i < listed.size) (hl : listed.getD i true = false) : lft (listed.setIfInBounds i true) + 1 = lft listed := by
  have hg : listed.toList[i]'(by simpa using hi) = false := by
    rw [getD_flip hi] at hl
    simpa [Array.getD, hi] using hl
  unfold lft
  rw [Array.toList_setIfInBounds, List.countP_set (by simpa using hi)]
  have : 0 < listed.toList.countP (fun b => !b) := List.countP_pos_iff.2 ⟨false, hg ▸ List.getElem_mem _, rfl⟩
  simp only [hg, Bool.not_false, Bool.not_true, if_true, Bool.false_eq_true, if_false]
  omega
theorem lft_zero {listed : Array Bool} (h : lft listed = 0) {i : Nat} (hi : i < listed.size) : listed.getD i false = true := by
  unfold lft at h
  rw [List.countP_eq_zero] at h
  have := h (listed.toList[i]'(by simpa using hi)) (List.getElem_mem _)
  simpa [Array.getD, hi] using this

/-- THE RULE, by any property of what has been done. -/
theorem wpAny_inv (hb : backB ops = true) (φ : Nat → Act → World → Prop) (J : Act → World → Prop)
    (step : ∀ i o, ops[i]? = some o → ∀ a w K, J a w → (∀ e ∈ o.after, Region.binds .any e = true → φ e.on a w) →
      (∀ a' w', J a' w' → φ i a' w' → (∀ j, j < ops.size → j ≠ i → φ j a w → φ j a' w') → K a' w') → o.wp P a w K Q)
    (fin : ∀ a w, J a w → (∀ j, j < ops.size → φ j a w) → Q .normal a w) :
    ∀ (fuel : Nat) (listed : Array Bool) (a : Act) (w : World), listed.size = ops.size → lft listed ≤ fuel → J a w → (∀ j, j < ops.size → listed.getD j false = true → φ j a w) → wpAny P .any ops Q fuel listed a w := by
  intro fuel
  induction fuel with
  | zero =>
    intro listed a w hs hf hJ hφ
    have hall : ∀ j, j < ops.size → listed.getD j false = true := fun j hj => lft_zero (by omega) (by omega)
    refine ⟨?_, fin a w hJ (fun j hj => hφ j hj (hall j hj))⟩
    rw [List.eq_nil_iff_forall_not_mem]
    intro i hi
    obtain ⟨h1, h2, _⟩ := ready_spec hi
    rw [getD_flip (by omega), hall i h1] at h2
    cases h2
  | succ fuel ih =>
    intro listed a w hs hf hJ hφ
    refine ⟨fun h0 => fin a w hJ (fun j hj => hφ j hj (all_listed hb hs h0 j hj)), fun i hi => ?_⟩
    obtain ⟨h1, h2, h3⟩ := ready_spec hi
    obtain ⟨o, ho⟩ : ∃ o, ops[i]? = some o := ⟨ops[i], Array.getElem?_eq_getElem h1⟩
    unfold wpOp
    rw [ho]
    simp only []
    rw [if_pos (by simp [Region.wanted, (back_spec hb ho).1])]
    refine Or.inl (step i o ho a w _ hJ (fun e he hbd => ?_) (fun a' w' hJ' hφ' hk => ?_))
    · exact hφ e.on (by have := (back_spec hb ho).2 e he; omega) (h3 o ho e he hbd)
    · refine ih _ a' w' (by simpa using hs) ?_ hJ' (fun j hj hl => ?_)
      · have := lft_set (by omega) h2
        omega
      · by_cases hji : j = i
        · subst hji; exact hφ'
        · refine hk j hj hji (hφ j hj ?_)
          rw [getD_set_ne (fun e => hji e.symm)] at hl
          exact hl
/-- What operation j has yielded. -/
def slotOf (ops : Array Oper) (j : Nat) (a : Act) : Value := match (ops[j]?).bind (·.dst) with | some d => a.tmps.getD d undef | none => undef
/-- No two operations write one slot, and every slot is there. -/
def apartB (ops : Array Oper) (n : Nat) : Bool := (List.range ops.size).all fun i => match (ops[i]?).bind (·.dst) with
  | none => true
  | some d => decide (d < n) && (List.range ops.size).all fun j => i == j || (ops[j]?).bind (·.dst) != some d
theorem apart_spec {n : Nat} (h : apartB ops n = true) {i d : Nat} {o : Oper} (ho : ops[i]? = some o) (hd : o.dst = some d) : d < n ∧ ∀ j, j < ops.size → j ≠ i → (ops[j]?).bind (·.dst) ≠ some d := by
  have hi : i < ops.size := (Array.getElem?_eq_some_iff.1 ho).1
  have := (List.all_eq_true.1 h) i (by simpa using hi)
  rw [ho, Option.bind_some, hd] at this
  simp only [Bool.and_eq_true] at this
  refine ⟨of_decide_eq_true this.1, fun j hj hji => ?_⟩
  have h2 := (List.all_eq_true.1 this.2) j (by simpa using hj)
  simp only [Bool.or_eq_true, beq_iff_eq, bne_iff_ne] at h2
  exact h2.resolve_left (fun e => hji e.symm)
def offB (ops : Array Oper) (k : Nat) : Bool := ops.all fun o => o.dst != some k
/-- The frame of a, but for the region's own slots. -/
def Fr (a : Act) (ops : Array Oper) (a1 : Act) : Prop := a1.defers = a.defers ∧ a1.tmps.size = a.tmps.size ∧ ∀ k, offB ops k = true → a1.tmps.getD k undef = a.tmps.getD k undef
theorem Fr.put {a a1 : Act} (h : Fr a ops a1) {i : Nat} {o : Oper} (ho : ops[i]? = some o) (v : Value) : Fr a ops (a1.put o.dst v) := by
  cases hd : o.dst with
  | none => exact h
  | some d =>
    refine ⟨h.1, by simpa [Act.put] using h.2.1, fun k hk => ?_⟩
    have hne : d ≠ k := by
      intro e
      unfold offB at hk
      rw [Array.all_eq_true'] at hk
      have := hk o (Array.mem_of_getElem? ho)
      rw [hd, e] at this
      simp at this
    rw [← h.2.2 k hk]
    simp [Act.put, Array.getD_eq_getD_getElem?, hne]
theorem slot_same {a1 : Act} {i : Nat} {o : Oper} (ho : ops[i]? = some o) {d : Nat} (hd : o.dst = some d) (hlt : d < a1.tmps.size) (v : Value) : slotOf ops i (a1.put o.dst v) = v := by
  unfold slotOf
  rw [ho, Option.bind_some, hd]
  simp [Act.put, Array.getD_eq_getD_getElem?, hlt]
theorem slot_other {n : Nat} (hA : apartB ops n = true) {a1 : Act} {i j : Nat} {o : Oper} (ho : ops[i]? = some o) (hj : j < ops.size) (hji : j ≠ i) (v : Value) : slotOf ops j (a1.put o.dst v) = slotOf ops j a1 := by
  cases hd : o.dst with
  | none => rfl
  | some d =>
    have hne := (apart_spec hA ho hd).2 j hj hji
    unfold slotOf
    split
    · rename_i d' hd'
      have hdd : d ≠ d' := fun e => hne (by rw [hd', e])
      simp [Act.put, Array.getD_eq_getD_getElem?, hdd]
    · rfl

/-- THE RULE BY SLOTS: what operation j yields (psi j), whatever comes beside; one operation (st) may store where none of the others looks. -/
theorem wp_region_free {id : Nat} {a : Act} {w : World} (hm : P.follows .mixedOrders = true) (hb : backB ops = true) (hA : apartB ops a.tmps.size = true)
    (Rel : World → World → Prop) (hN : ∀ w w', Nx w w' → Rel w w') (hT : ∀ u v w, Rel u v → Rel v w → Rel u w)
    (st : Nat) (J : World → Prop) (psi : Nat → Value → World → Prop)
    (k1 : ∀ j v w w', j ≠ st → Rel w w' → psi j v w → psi j v w') (k2 : ∀ v w w', Nx w w' → psi st v w → psi st v w')
    (kJ : ∀ w w', Nx w w' → J w → J w') (hJ : J w)
    (step : ∀ i o, ops[i]? = some o → ∀ a1 w1 K, Fr a ops a1 → J w1 → Rel w w1 → (∀ e ∈ o.after, Region.binds .any e = true → psi e.on (slotOf ops e.on a1) w1) →
      (∀ v w2, (i ≠ st → Nx w1 w2) → (i = st → Rel w1 w2 ∧ J w2) → psi i v w2 → (o.dst = none → v = undef) → K (a1.put o.dst v) w2) → o.wp P a1 w1 K Q)
    (fin : ∀ a1 w1, Fr a ops a1 → J w1 → Rel w w1 → (∀ j, j < ops.size → psi j (slotOf ops j a1) w1) → Q .normal a1 w1) : (Code.region id ops true).wp P Q a w := by
  have hw : Nx w { w with drawn := w.drawn + 1 } := (Nx.refl w).drew
  refine wp_region_any hm (wpAny_inv hb (fun j a1 w1 => psi j (slotOf ops j a1) w1) (fun a1 w1 => Fr a ops a1 ∧ J w1 ∧ Rel w w1)
    (fun i o ho a1 w1 K hF hE hK => ?_) (fun a1 w1 hF h => fin a1 w1 hF.1 hF.2.1 hF.2.2 h) ops.size (Array.replicate ops.size false) a _ (by simp) ?_ ⟨⟨rfl, rfl, fun _ _ => rfl⟩, kJ _ _ hw hJ, hN _ _ hw⟩ ?_)
  · refine step i o ho a1 w1 K hF.1 hF.2.1 hF.2.2 hE (fun v w2 h1 h2 h3 h4 => hK _ _ ⟨hF.1.put ho v, ?_, hT _ _ _ hF.2.2 ?_⟩ ?_ (fun j hj hji hp => ?_))
    · by_cases e : i = st
      · exact (h2 e).2
      · exact kJ _ _ (h1 e) hF.2.1
    · by_cases e : i = st
      · exact (h2 e).1
      · exact hN _ _ (h1 e)
    · cases hd : o.dst with
      | none =>
        rw [h4 hd] at h3
        unfold slotOf
        rw [ho, Option.bind_some, hd]
        exact h3
      | some d =>
        rw [← hd, slot_same ho hd (by rw [hF.1.2.1]; exact (apart_spec hA ho hd).1)]
        exact h3
    · rw [slot_other hA ho hj hji]
      by_cases e : i = st
      · exact k1 j _ _ _ (by omega) (h2 e).1 hp
      · by_cases e2 : j = st
        · subst e2; exact k2 _ _ _ (h1 e) hp
        · exact k1 j _ _ _ e2 (hN _ _ (h1 e)) hp
  · unfold lft
    exact Nat.le_trans (List.countP_le_length) (by simp)
  · intro j hj hl
    simp [Array.getD, hj] at hl
end
end Go.Proofs.Ytndapcbjcannhaa
