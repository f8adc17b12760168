/- Words for images and boxes in memory. No condition. -/
import Derived.Test.YtdiamajkfbejhaaDoorIE
namespace Go.Proofs.YtdiamajkfbejhaaDoor
open Go.RowKit

/-- An image in memory: how its cells read, its length, and that nil has no capacity. -/
def Im (w : World) (A : Option Addr) (m c : Nat) (xs : List Bool) : Prop := Rd w A xs ∧ xs.length = m ∧ (A = none → c = 0)
theorem Im.nx {w w' : World} {A : Option Addr} {m c : Nat} {xs : List Bool} (h : Im w A m c xs) (k : Nx w w') : Im w' A m c xs := ⟨h.1.nx k, h.2⟩
theorem Nx.set {a b : World} (h : Nx a b) {g i : Nat} {o : Option Nat} (hp : a.heap.size ≤ g) (u : Value) : Nx a (b.setCell ⟨g, i, o⟩ u) := Below.setCell h hp u

/-- A block of cells, none of them frozen. -/
def Bx (w : World) (g : Nat) (T : TypeId) (vs : List Value) : Prop := w.heap[g]? = some (.cells vs.toArray T (0, 0))
theorem Bx.lt {w : World} {g : Nat} {T : TypeId} {vs : List Value} (h : Bx w g T vs) : g < w.heap.size := (Array.getElem?_eq_some_iff.1 h).1
theorem Bx.nx {w w' : World} {g : Nat} {T : TypeId} {vs : List Value} (h : Bx w g T vs) (k : Nx w w') : Bx w' g T vs := (k.block g h.lt).trans h
theorem Bx.cell {w : World} {g : Nat} {T : TypeId} {vs : List Value} (h : Bx w g T vs) (i : Nat) {v : Value} (hv : vs[i]? = some v) : w.cell? ⟨g, i, none⟩ = some v := by
  have e : w.heap[g]? = some (.cells vs.toArray T (0, 0)) := h
  simp [World.cell?, e, hv]
theorem bx_new (w : World) (T : TypeId) (vs : List Value) : Bx (w.alloc (.cells vs.toArray T)) w.heap.size T vs := heap_alloc_new w _
theorem Bx.far {w : World} {g b i : Nat} {o : Option Nat} {T : TypeId} {vs : List Value} (h : Bx w g T vs) (hne : g ≠ b) (v : Value) : Bx (w.setCell ⟨b, i, o⟩ v) g T vs := (Deep.blk_setCell_other w _ v g hne).trans h
theorem Bx.frozen {w : World} {g : Nat} {T : TypeId} {vs : List Value} (h : Bx w g T vs) (i : Nat) : w.frozen? ⟨g, i, none⟩ = false := by
  have e : w.heap[g]? = some (.cells vs.toArray T (0, 0)) := h
  simp [World.frozen?, e]
theorem Bx.put {w : World} {g : Nat} {T : TypeId} {vs : List Value} (h : Bx w g T vs) (i : Nat) (v : Value) : Bx (w.setCell ⟨g, i, none⟩ v) g T (vs.set i v) := by
  have e : w.heap[g]? = some (.cells vs.toArray T (0, 0)) := h
  unfold Bx
  simp [World.setCell, Array.getElem?_modify, e]
theorem OwB.far {w : World} {base g c b i : Nat} {o : Option Nat} {xs : List Bool} (h : OwB w base g c xs) (hne : g ≠ b) (v : Value) : OwB (w.setCell ⟨b, i, o⟩ v) base g c xs :=
  World.ownsRow.kept h (row := some b) ⟨rfl, rfl, rfl, by simp [World.setCell], fun k _ hk => Deep.blk_setCell_other w _ v k (fun e => hk (by rw [e]))⟩ (Or.inr (by simp [Value.ownBlock]; exact hne))
theorem OwB.low {w : World} {base base' g c : Nat} {xs : List Bool} (h : OwB w base g c xs) (hb : base' ≤ base) : OwB w base' g c xs := by
  obtain ⟨h1, h2⟩ := h
  refine ⟨h1, ?_⟩
  rcases h2 with hn | ⟨g', cap, cur, e, hg, rest⟩
  · exact .inl hn
  · exact .inr ⟨g', cap, cur, e, Nat.le_trans hb hg, rest⟩
theorem OwB.im {w : World} {base g c : Nat} {xs : List Bool} (h : OwB w base g c xs) {m : Nat} (hm : xs.length = m) : Im w (some ⟨g, 0, none⟩) m c xs := ⟨h.rd, hm, fun e => by cases e⟩
end Go.Proofs.YtdiamajkfbejhaaDoor
