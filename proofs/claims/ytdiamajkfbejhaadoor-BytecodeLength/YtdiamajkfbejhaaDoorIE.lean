/- What image.Set and the reference's Set return. Conditions: a slice whose cells read as a list of bools, of at most a million. -/
import Derived.Test.YtdiamajkfbejhaaDoorID
import Derived.Laws.CopyOwn
import Derived.Deep.AppendLies
namespace Go.Proofs.YtdiamajkfbejhaaDoor
open Go.RowKit

/-- An own row of bools. -/
def OwB (w : World) (base g c : Nat) (xs : List Bool) : Prop := w.ownsRow base 4 1 (.slice (some ⟨g, 0, none⟩) xs.length c) xs.length (bools xs)
theorem OwB.rd {w : World} {base g c : Nat} {xs : List Bool} (h : OwB w base g c xs) : Rd w (some ⟨g, 0, none⟩) xs := fun k b hk =>
  ⟨_, rfl, (World.ownsRow.cells h (g := g) rfl) k _ (by simp [bools, hk])⟩
theorem OwB.cell {w : World} {base g c : Nat} {xs : List Bool} (h : OwB w base g c xs) {k : Nat} {b : Bool} (hk : xs[k]? = some b) : w.cell? ⟨g, k, none⟩ = some (.bool b) := by
  have hlt : k < xs.length := (List.getElem?_eq_some_iff.1 hk).1
  rw [World.ownsRow.cellAt h k (by omega)]; simp [bools, hk]
theorem OwB.frozen {w : World} {base g c : Nat} {xs : List Bool} (h : OwB w base g c xs) (k : Nat) : w.frozen? ⟨g, k, none⟩ = false := World.ownsRow.frozenAt h k
theorem OwB.set {w : World} {base g c : Nat} {xs : List Bool} (h : OwB w base g c xs) (k : Nat) (b : Bool) : OwB (w.setCell ⟨g, k, none⟩ (.bool b)) base g c (xs.set k b) := by
  have := (World.ownsRow.stored h k (.bool b)).1
  unfold OwB
  rw [List.length_set, show bools (xs.set k b) = (bools xs).set k (.bool b) by simp [bools, List.map_set]]
  exact this
theorem OwB.base_le {w : World} {base g c : Nat} {xs : List Bool} (h : OwB w base g c xs) : base ≤ g := (World.ownsRow.lt h g rfl).1
theorem OwB.nx {w w' : World} {base g c : Nat} {xs : List Bool} (h : OwB w base g c xs) (k : Nx w w') : OwB w' base g c xs :=
  World.ownsRow.kept h (row := none) ⟨k.os, k.tape, k.output, k.size, fun i hi _ => k.block i hi⟩ (Or.inr (by simp [Value.ownBlock]))

def SetPost (xs : List Bool) (w : World) (e : Ending) (w' : World) : Prop :=
  ∃ g c, e = .returned (.tuple #[.slice (some ⟨g, 0, none⟩) xs.length c, .int .i64 0]) ∧ OwB w' w.heap.size g c xs ∧ Nx w w'

theorem bools_length (xs : List Bool) : (bools xs).length = xs.length := by simp [bools]
theorem own_of_block {w : World} {g base m : Nat} {xs : List Bool} (hm : xs.length = m) (hb : base ≤ g) (h : w.heap[g]? = some (.cells (bools xs).toArray 4 (0, 0))) (hl : m ≤ 1000000) : OwB w base g m xs := by
  subst hm
  refine ⟨by simp [bools], .inr ⟨g, xs.length, (bools xs).toArray, rfl, hb, h, Nat.le_refl _, by unfold maxLen; omega, by simp [bools], by simp [bools, List.take_of_length_le]⟩⟩
theorem splice_all (m : Nat) (xs : List Bool) (h : xs.length = m) : splice (List.replicate m (Value.bool false)) 0 (bools xs) = bools xs := by
  unfold splice; simp [bools, h]

def RefSetPost (xs : List Bool) (w : World) (e : Ending) (w' : World) : Prop :=
  ∃ g c, e = .returned (.slice (some ⟨g, 0, none⟩) xs.length c) ∧ OwB w' w.heap.size g c xs ∧ Nx w w'
theorem src_of {w : World} {ad0 : Addr} {xs : List Bool} (hr : Rd w (some ad0) xs) : ∀ j u, (bools xs)[j]? = some u → w.cell? (ad0.add j) = some u := by
  intro j u hj
  simp only [bools, List.getElem?_map, Option.map_eq_some_iff] at hj
  obtain ⟨x, hx1, rfl⟩ := hj
  obtain ⟨ad, e, hc⟩ := hr j x hx1
  obtain rfl := Option.some.inj e
  exact hc
theorem owB_form {w : World} {base n : Nat} {v : Value} {xs : List Bool} (h : w.ownsRow base 4 1 v n (bools xs)) (hn : 0 < xs.length) : ∃ g c, v = .slice (some ⟨g, 0, none⟩) xs.length c ∧ OwB w base g c xs := by
  have he : n = xs.length := by have := h.1; simpa [bools] using this.symm
  subst he
  obtain ⟨g, c, rfl, _⟩ := h.form hn
  exact ⟨g, c, rfl, h⟩

end Go.Proofs.YtdiamajkfbejhaaDoor
