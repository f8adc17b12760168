/- A rule for a drawn region with guards, whose operations keep a relation on worlds of one's own (wider than Nx). Conditions: as in R3. -/
import Derived.Test.YtdpccnpaajhliaaMA
namespace Go.Proofs.Ytdpccnpaajhliaa
open Go.RowKit

section
variable {P : Program} {ops : Array Oper} {Q : Exit → Act → World → Prop}
theorem wp_region_rel {id : Nat} {a : Act} {w : World} (hm : P.follows .mixedOrders = true) (hb : backG ops = true) (hA : apartB ops a.tmps.size = true)
    (see : Nat → List Nat) (hsee : seeB ops see = true)
    (Rel : World → World → Prop) (hN : ∀ w w', Nx w w' → Rel w w') (hT : ∀ u v w, Rel u v → Rel v w → Rel u w)
    (psi : Nat → (Nat → Value) → World → Prop)
    (kV : ∀ j f f' w, f j = f' j → (∀ k ∈ see j, f k = f' k) → psi j f w → psi j f' w)
    (k1 : ∀ j f w w', Rel w w' → psi j f w → psi j f w')
    (step : ∀ i o, ops[i]? = some o → ∀ a1 w1 K, Fr a ops a1 → Rel w w1 → (∀ e ∈ o.after, Region.binds .any e = true → psi e.on (view ops a1) w1) →
      (∀ v w2, Rel w1 w2 → psi i (upd (view ops a1) i v) w2 → (o.dst = none → v = undef) → K (a1.put o.dst v) w2) →
        (Region.wanted o (yielded ops a1.tmps) = true ∧ o.wp P a1 w1 K Q) ∨ (Region.wanted o (yielded ops a1.tmps) = false ∧ K (a1.put o.dst undef) w1))
    (fin : ∀ a1 w1, Fr a ops a1 → Rel w w1 → (∀ j, j < ops.size → psi j (view ops a1) w1) → Q .normal a1 w1) : (Code.region id ops true).wp P Q a w := by
  have hw : Nx w { w with drawn := w.drawn + 1 } := (Nx.refl w).drew
  refine wp_region_any hm (wpAny_inv3 hb see hsee (fun j a1 w1 => psi j (view ops a1) w1) (fun a1 w1 => Fr a ops a1 ∧ Rel w w1)
    (fun i o ho a1 w1 K hF hE hK => ?_) (fun a1 w1 hF h => fin a1 w1 hF.1 hF.2 h) ops.size (Array.replicate ops.size false) a _ (by simp) ?_ ⟨⟨rfl, rfl, fun _ _ => rfl⟩, hN _ _ hw⟩ ?_ ?_)
  · refine step i o ho a1 w1 K hF.1 hF.2 hE (fun v w2 h1 h3 h4 => hK _ _ ⟨hF.1.put ho v, hT _ _ _ hF.2 h1⟩ ?_ (fun j hj hji hns hp => ?_))
    · rw [view_put hA hF.1.2.1 ho v h4]
      exact h3
    · rw [view_put hA hF.1.2.1 ho v h4]
      have hp' : psi j (upd (view ops a1) i v) w1 := kV j _ _ w1 (by unfold upd; rw [if_neg hji]) (fun k hk => by unfold upd; rw [if_neg (fun e => hns (by rw [← e]; exact hk))]) hp
      exact k1 j _ _ _ h1 hp'
  · unfold lft
    exact Nat.le_trans (List.countP_le_length) (by simp)
  · intro j hj hl
    simp [Array.getD, hj] at hl
  · intro j hl k hk
    by_cases hj : j < ops.size
    · simp [Array.getD, hj] at hl
    · simp [Array.getD, hj] at hl
end
end Go.Proofs.Ytdpccnpaajhliaa
