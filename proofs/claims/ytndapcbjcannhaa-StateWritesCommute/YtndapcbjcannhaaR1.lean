/- append of an image onto a new empty slice, as one operation of a region. Conditions: an image that reads as a list of bools, of at most a million. -/
import Derived.Test.YtndapcbjcannhaaR0
import Derived.ArgAppend
import Derived.Laws.OwnMore
import Derived.Laws.AppendOwnNone
namespace Go.Proofs.Ytndapcbjcannhaa
open Go.RowKit

/-- A row of bools of the call's own, nil or not. -/
def Ow (w : World) (B : Nat) (v : Value) (xs : List Bool) : Prop := w.ownsRow B 4 1 v xs.length (bools xs)
theorem Ow.kept {w w' : World} {B b : Nat} {v : Value} {xs : List Bool} (h : Ow w B v xs) (hb : b < B) (k : w.grownBy w' (some b)) : Ow w' B v xs := by
  refine World.ownsRow.kept h k ?_
  rcases h.2 with ⟨rfl, _⟩ | ⟨g, cap, cur, rfl, hg, _⟩
  · exact .inl rfl
  · exact .inr (by simp [Value.ownBlock]; omega)
theorem Nx.grown {w w' : World} (k : Nx w w') (row : Option Nat) : w.grownBy w' row := ⟨k.os, k.tape, k.output, k.size, fun i hi _ => k.block i hi⟩
theorem grown_trans {u v w : World} {row : Option Nat} (h : u.grownBy v row) (k : v.grownBy w row) : u.grownBy w row :=
  ⟨k.os.trans h.os, k.tape.trans h.tape, k.output.trans h.output, Nat.le_trans h.size k.size, fun i hi hr => (k.block i (Nat.lt_of_lt_of_le hi h.size) hr).trans (h.block i hi hr)⟩
theorem nx_grown {u v w : World} {b : Nat} (h : Nx u v) (k : v.grownBy w (some b)) (hb : u.heap.size ≤ b) : Nx u w :=
  Below.grown h k h.size (fun j e => by have := Option.some.inj e; omega)
theorem own_low {w : World} {B B' : Nat} {v : Value} {n : Nat} {ys : List Value} (h : w.ownsRow B 4 1 v n ys) (hb : B' ≤ B) : w.ownsRow B' 4 1 v n ys := by
  obtain ⟨h1, h2⟩ := h
  refine ⟨h1, ?_⟩
  rcases h2 with hn | ⟨g', cap, cur, e, hg, rest⟩
  · exact .inl hn
  · exact .inr ⟨g', cap, cur, e, Nat.le_trans hb hg, rest⟩
theorem Ow.im {w : World} {B : Nat} {v : Value} {xs : List Bool} (h : Ow w B v xs) : ∃ A c, v = .slice A xs.length c ∧ Im w A xs.length c xs := by
  rcases h.2 with ⟨rfl, h0⟩ | ⟨g, cap, cur, rfl, hg, _⟩
  · have : xs = [] := List.eq_nil_of_length_eq_zero h0
    subst this
    exact ⟨none, 0, rfl, fun k b hk => by simp at hk, rfl, fun _ => rfl⟩
  · have h' : OwB w B g cap xs := h
    exact ⟨_, _, rfl, h'.rd, rfl, fun e => by cases e⟩

/-- append(an empty slice of the call's own, an image ...). -/
theorem wp_fresh {o : Oper} {a1 : Act} {w1 : World} {K : Act → World → Prop} {Q : Exit → Act → World → Prop} (s x : Operand)
    (ho : o.op = .call { callee := .builtin .append, args := #[s, x], argTypes := #[24, 24] }) (B g : Nat) (hs : a1.eval s = .slice (some ⟨g, 0, none⟩) 0 0)
    (hg : w1.ownsRow B 4 1 (.slice (some ⟨g, 0, none⟩) 0 0) 0 []) (hB : B ≤ w1.heap.size) (A : Option Addr) (m c : Nat) (xs : List Bool) (hx : a1.eval x = .slice A m c) (hi : Im w1 A m c xs) (hm : m ≤ 1000000)
    (h : ∀ v w2, Nx w1 w2 → Ow w2 B v xs → (xs ≠ [] → Ow w2 w1.heap.size v xs) → K (a1.put o.dst v) w2) : o.wp Try.prog a1 w1 K Q := by
  obtain ⟨hr, hl, hc⟩ := hi
  obtain ⟨i0, h2, hz0, hz1, hz2⟩ := info_parts info4
  have empty : xs = [] → Ow w1 B (.slice (some ⟨g, 0, none⟩) 0 0) xs := fun e => by subst e; exact hg
  cases A with
  | none =>
    obtain rfl := hc rfl
    have hxs : xs = [] := by
      cases xs with
      | nil => rfl
      | cons b l => obtain ⟨ad, e, _⟩ := hr 0 b rfl; cases e
    subst hxs
    subst hl
    have hrun := run_append_owned_none (P := Try.prog) (w := w1) B 24 o.type 4 i0 1 Try.underlying24 h2 _ 0 [] hg
    unfold Oper.wp
    simp [execOp, ho, resolve, invoke, builtin, hs, hx, hrun, Result.andThen]
    exact h _ _ (Nx.refl _) (empty rfl) (fun e => absurd rfl e)
  | some ad =>
    by_cases h0 : m = 0
    · subst h0
      have hxs : xs = [] := List.eq_nil_of_length_eq_zero hl
      have hrun := run_append_room_cells (P := Try.prog) w1 24 o.type 4 i0 Try.underlying24 h2 g 0 0 0 ad 0 c [] (by simp) (by simp) (by simp) (Nat.le_refl _) (by simp) (by simp)
      unfold Oper.wp
      simp [execOp, ho, resolve, invoke, builtin, hs, hx, hrun, Result.andThen]
      exact h _ _ (Nx.refl _) (empty hxs) (fun e => absurd hxs e)
    · obtain ⟨v', w', hrun, r1, r2⟩ := run_append_arg_grows (P := Try.prog) w1 24 o.type 4 i0 (.bool false) 1 1 Try.underlying24 h2 hz0 hz1 hz2 rfl (by decide) ⟨g, 0, none⟩ 0 0 [] (by simp) (by simp) ad m c (bools xs) (by rw [bools_length, hl]; omega) (src_of hr) (by omega) (by unfold maxLen; omega) (by omega)
      unfold Oper.wp
      simp [execOp, ho, resolve, invoke, builtin, hs, hx, hrun, Result.andThen]
      rw [Nat.zero_add, List.nil_append, ← hl] at r1
      exact h v' w' (Below.grown (Nx.refl _) r2 (Nat.le_refl _) (fun _ e => by cases e)) (own_low r1 hB) (fun _ => r1)
theorem tmp_of {a1 : Act} {k : Nat} {v : Value} (h : a1.tmps.getD k undef = v) : a1.tmps[k]?.getD undef = v := by rwa [Array.getD_eq_getD_getElem?] at h
theorem grown_set (w : World) (b i : Nat) (v : Value) : w.grownBy (w.setCell ⟨b, i, none⟩ v) (some b) :=
  ⟨rfl, rfl, rfl, by simp [World.setCell], fun k _ hk => Deep.blk_setCell_other w _ v k (fun e => hk (by rw [e]))⟩
theorem Ow.nx {w w' : World} {B : Nat} {v : Value} {xs : List Bool} (h : Ow w B v xs) (k : Nx w w') : Ow w' B v xs := by
  refine World.ownsRow.kept h (k.grown none) ?_
  rcases h.2 with ⟨rfl, _⟩ | ⟨g, cap, cur, rfl, hg, _⟩
  · exact .inl rfl
  · exact .inr (by simp [Value.ownBlock])
end Go.Proofs.Ytndapcbjcannhaa
