/- Words for programs in memory: instructions, and the cells of a program. No condition. -/
import Derived.Test.YtdiamajkfbejhaaDoorIS1
namespace Go.Proofs.YtdiamajkfbejhaaDoor
open Go.RowKit

/-- An instruction: opcode, space and number of the address, operand. -/
structure In4 where
  op : Int
  k : Int
  n : Int
  t : Int
/-- The cells of a slice read as a program. -/
def RdC (w : World) (A : Option Addr) (code : List In4) : Prop := ∀ (k : Nat) (x : In4), code[k]? = some x → ∃ ad, A = some ad ∧
  w.cell? (ad.add (k * 4)) = some (.int .i64 x.op) ∧ w.cell? (ad.add (k * 4 + 1)) = some (.int .i64 x.k) ∧ w.cell? (ad.add (k * 4 + 2)) = some (.int .i64 x.n) ∧ w.cell? (ad.add (k * 4 + 3)) = some (.int .i64 x.t)
theorem RdC.nx {w w' : World} {A : Option Addr} {code : List In4} (h : RdC w A code) (k : Nx w w') : RdC w' A code := fun i x hi => by
  obtain ⟨ad, e, h1, h2, h3, h4⟩ := h i x hi
  exact ⟨ad, e, k.cell h1, k.cell h2, k.cell h3, k.cell h4⟩
theorem infoIns : (Tryd.prog.info? 46).map (fun i => (i.zero, i.size, i.bytes)) = some (some (.agg #[.int .i64 0, .int .i64 0, .int .i64 0, .int .i64 0]), 4, 32) := by kernel_rfl
/-- The cells of a program. -/
def ins : List In4 → List Value
  | [] => []
  | x :: l => .int .i64 x.op :: .int .i64 x.k :: .int .i64 x.n :: .int .i64 x.t :: ins l
theorem ins_len (l : List In4) : (ins l).length = l.length * 4 := by
  induction l with
  | nil => rfl
  | cons x l ih => simp only [ins, List.length_cons, ih]; omega
theorem ins_at (l : List In4) : ∀ (j : Nat) (u : Value), (ins l)[j]? = some u → ∃ i x, l[i]? = some x ∧ ((j = i * 4 ∧ u = .int .i64 x.op) ∨ (j = i * 4 + 1 ∧ u = .int .i64 x.k) ∨ (j = i * 4 + 2 ∧ u = .int .i64 x.n) ∨ (j = i * 4 + 3 ∧ u = .int .i64 x.t)) := by
  induction l with
  | nil => intro j u h; simp [ins] at h
  | cons x l ih =>
    intro j u h
    rcases j with _ | _ | _ | _ | j
    · exact ⟨0, x, rfl, .inl ⟨rfl, (Option.some.inj h).symm⟩⟩
    · exact ⟨0, x, rfl, .inr (.inl ⟨rfl, (Option.some.inj h).symm⟩)⟩
    · exact ⟨0, x, rfl, .inr (.inr (.inl ⟨rfl, (Option.some.inj h).symm⟩))⟩
    · exact ⟨0, x, rfl, .inr (.inr (.inr ⟨rfl, (Option.some.inj h).symm⟩))⟩
    · obtain ⟨i, y, hy, hc⟩ := ih j u h
      refine ⟨i + 1, y, hy, ?_⟩
      rcases hc with ⟨rfl, e⟩ | ⟨rfl, e⟩ | ⟨rfl, e⟩ | ⟨rfl, e⟩
      · exact .inl ⟨by omega, e⟩
      · exact .inr (.inl ⟨by omega, e⟩)
      · exact .inr (.inr (.inl ⟨by omega, e⟩))
      · exact .inr (.inr (.inr ⟨by omega, e⟩))
theorem ins_get (l : List In4) : ∀ (k : Nat) (x : In4), l[k]? = some x → (ins l)[k * 4]? = some (.int .i64 x.op) ∧ (ins l)[k * 4 + 1]? = some (.int .i64 x.k) ∧ (ins l)[k * 4 + 2]? = some (.int .i64 x.n) ∧ (ins l)[k * 4 + 3]? = some (.int .i64 x.t) := by
  induction l with
  | nil => intro k x h; simp at h
  | cons y l ih =>
    intro k x h
    cases k with
    | zero => obtain rfl := Option.some.inj h; exact ⟨rfl, rfl, rfl, rfl⟩
    | succ k =>
      obtain ⟨h1, h2, h3, h4⟩ := ih k x h
      have e : (k + 1) * 4 = k * 4 + 1 + 1 + 1 + 1 := by omega
      rw [e]
      exact ⟨h1, h2, h3, h4⟩
theorem ins_one (l : List In4) : ∀ u ∈ ins l, u.oneCell' = true := fun u hu => by
  obtain ⟨j, hj⟩ := List.getElem?_of_mem hu
  obtain ⟨i, x, _, hc⟩ := ins_at l j u hj
  rcases hc with ⟨_, rfl⟩ | ⟨_, rfl⟩ | ⟨_, rfl⟩ | ⟨_, rfl⟩ <;> rfl
theorem ins_src {w : World} {ad : Addr} {l : List In4} (h : RdC w (some ad) l) : ∀ j u, (ins l)[j]? = some u → w.cell? (ad.add j) = some u := fun j u hj => by
  obtain ⟨i, x, hx, hc⟩ := ins_at l j u hj
  obtain ⟨ad', e, h1, h2, h3, h4⟩ := h i x hx
  obtain rfl := Option.some.inj e
  rcases hc with ⟨rfl, rfl⟩ | ⟨rfl, rfl⟩ | ⟨rfl, rfl⟩ | ⟨rfl, rfl⟩
  · exact h1
  · exact h2
  · exact h3
  · exact h4
theorem own_of {w w' : World} {base : Nat} {e : TypeId} {size : Nat} {v : Value} {n : Nat} {xs : List Value} (h : w.ownsRow base e size v n xs) (k : ∀ g, v.ownBlock = some g → g < w.heap.size → w'.heap[g]? = w.heap[g]?) : w'.ownsRow base e size v n xs := by
  refine ⟨h.1, ?_⟩
  rcases h.2 with hn | ⟨g, cap, cur, rfl, hb, hg, rest⟩
  · exact .inl hn
  · exact .inr ⟨g, cap, cur, rfl, hb, (k g rfl (Array.getElem?_eq_some_iff.1 hg).1).trans hg, rest⟩
/-- A slice value of the call's own that reads as a program. -/
def OwC (w : World) (B : Nat) (v : Value) (code : List In4) : Prop := w.ownsRow B 46 4 v code.length (ins code)
theorem OwC.nx {w w' : World} {B : Nat} {v : Value} {code : List In4} (h : OwC w B v code) (k : Nx w w') : OwC w' B v code := own_of h fun g _ hg => k.block g hg
theorem OwC.rd {w : World} {B : Nat} {v : Value} {code : List In4} (h : OwC w B v code) : ∃ A c, v = .slice A code.length c ∧ RdC w A code ∧ (∀ ad, A = some ad → ad.block < w.heap.size ∧ B ≤ ad.block) ∧ (A = none → c = 0) := by
  unfold OwC at h
  rcases h.2 with ⟨rfl, h0⟩ | ⟨g, cap, cur, rfl, hg, hcur, _⟩
  · obtain rfl := List.eq_nil_of_length_eq_zero h0
    exact ⟨none, 0, rfl, fun k x hk => by simp at hk, (fun ad e => by cases e), fun _ => rfl⟩
  · refine ⟨_, _, rfl, fun k x hk => ?_, fun ad e => ?_, fun e => by cases e⟩
    · obtain ⟨h1, h2, h3, h4⟩ := ins_get code k x hk
      have hc := World.ownsRow.cells h (g := g) rfl
      exact ⟨_, rfl, hc _ _ h1, hc _ _ h2, hc _ _ h3, hc _ _ h4⟩
    · obtain rfl := Option.some.inj e
      exact ⟨(Array.getElem?_eq_some_iff.1 hcur).1, hg⟩
end Go.Proofs.YtdiamajkfbejhaaDoor
