/- Words for the walk of StateWriteIsolated: rows that are flipped. No condition. -/
import Derived.Test.YtndapcbjcannhaaW4
import Derived.Deep.RegionHeld3
import Derived.Deep.DeepCutAuto
namespace Go.Proofs.Ytndapcbjcannhaa
open Go.RowKit

def RowOK (w : World) (B : Nat) (v : Value) : Prop := ∃ A m c ys, v = .slice A m c ∧ ys.length = m ∧ m ≤ 1000000 ∧ Ow w B v ys
/-- Rows of the call's own, in blocks of their own. -/
def Rows (w : World) (B : Nat) (L : List Value) : Prop := (∀ v ∈ L, RowOK w B v) ∧ (∀ u ∈ L, ∀ v ∈ L, u.ownBlock = v.ownBlock → u.ownBlock = none ∨ u = v)
theorem Ow.ge {w : World} {B : Nat} {v : Value} {x : List Bool} (h : Ow w B v x) {b : Nat} (e : v.ownBlock = some b) : B ≤ b ∧ b < w.heap.size := by
  rcases h.2 with ⟨rfl, _⟩ | ⟨g, cap, cur, rfl, hb, hg, _⟩
  · cases e
  · obtain rfl : g = b := by simpa [Value.ownBlock] using e
    exact ⟨hb, (Array.getElem?_eq_some_iff.1 hg).1⟩
theorem RowOK.nx {w w' : World} {B : Nat} {v : Value} (h : RowOK w B v) (k : Nx w w') : RowOK w' B v := by
  obtain ⟨A, m, c, ys, e, hl, hm, ho⟩ := h
  exact ⟨A, m, c, ys, e, hl, hm, Ow.nx ho k⟩
theorem Rows.nx {w w' : World} {B : Nat} {L : List Value} (h : Rows w B L) (k : Nx w w') : Rows w' B L := by
  refine ⟨fun v hv => ?_, h.2⟩
  obtain ⟨A, m, c, ys, e, hl, hm, ho⟩ := h.1 v hv
  exact ⟨A, m, c, ys, e, hl, hm, Ow.nx ho k⟩
/-- One row has been turned. -/
theorem Rows.step {w w' : World} {B : Nat} {L : List Value} (h : Rows w B L) {v : Value} (hv : v ∈ L) (k : w.grownBy w' v.ownBlock) (hr : RowOK w' B v) : Rows w' B L := by
  refine ⟨fun u hu => ?_, h.2⟩
  by_cases e : u.ownBlock = v.ownBlock
  · rcases h.2 u hu v hv e with hn | rfl
    · obtain ⟨A, m, c, ys, e1, hl, hm, ho⟩ := h.1 u hu
      exact ⟨A, m, c, ys, e1, hl, hm, World.ownsRow.kept ho k (Or.inl hn)⟩
    · exact hr
  · obtain ⟨A, m, c, ys, e1, hl, hm, ho⟩ := h.1 u hu
    exact ⟨A, m, c, ys, e1, hl, hm, World.ownsRow.kept ho k (Or.inr e)⟩
theorem row_of {w : World} {B g c m : Nat} {x : List Bool} (h : OwB w B g c x) (hl : x.length = m) (hm : m ≤ 1000000) : RowOK w B (.slice (some ⟨g, 0, none⟩) m c) := by
  subst hl
  exact ⟨_, _, _, x, rfl, rfl, hm, h⟩
theorem row_nil (w : World) (B : Nat) : RowOK w B (.slice none 0 0) := ⟨none, 0, 0, [], rfl, rfl, by decide, ⟨rfl, .inl ⟨rfl, rfl⟩⟩⟩
/-- Six rows in six blocks. -/
theorem rows_six {w : World} {B : Nat} {g1 g2 g3 g4 g5 g6 c1 c2 c3 c4 c5 c6 m1 m2 m3 m4 m5 m6 : Nat}
    (r1 : RowOK w B (.slice (some ⟨g1, 0, none⟩) m1 c1)) (r2 : RowOK w B (.slice (some ⟨g2, 0, none⟩) m2 c2)) (r3 : RowOK w B (.slice (some ⟨g3, 0, none⟩) m3 c3))
    (r4 : RowOK w B (.slice (some ⟨g4, 0, none⟩) m4 c4)) (r5 : RowOK w B (.slice (some ⟨g5, 0, none⟩) m5 c5)) (r6 : RowOK w B (.slice (some ⟨g6, 0, none⟩) m6 c6))
    (h : g1 < g2 ∧ g2 < g3 ∧ g3 < g4 ∧ g4 < g5 ∧ g5 < g6) :
    Rows w B [.slice (some ⟨g1, 0, none⟩) m1 c1, .slice (some ⟨g2, 0, none⟩) m2 c2, .slice (some ⟨g3, 0, none⟩) m3 c3, .slice (some ⟨g4, 0, none⟩) m4 c4, .slice (some ⟨g5, 0, none⟩) m5 c5, .slice (some ⟨g6, 0, none⟩) m6 c6] := by
  refine ⟨fun v hv => ?_, fun u hu v hv e => ?_⟩
  · simp only [List.mem_cons, List.not_mem_nil, or_false] at hv
    rcases hv with rfl | rfl | rfl | rfl | rfl | rfl <;> assumption
  · right
    simp only [List.mem_cons, List.not_mem_nil, or_false] at hu hv
    rcases hu with rfl | rfl | rfl | rfl | rfl | rfl <;> rcases hv with rfl | rfl | rfl | rfl | rfl | rfl <;> first | rfl | (simp only [Value.ownBlock, Option.some.injEq] at e; omega)
theorem rows_three {w : World} {B : Nat} {g1 g2 g3 c1 c2 c3 m1 m2 m3 : Nat}
    (r1 : RowOK w B (.slice (some ⟨g1, 0, none⟩) m1 c1)) (r2 : RowOK w B (.slice (some ⟨g2, 0, none⟩) m2 c2)) (r3 : RowOK w B (.slice (some ⟨g3, 0, none⟩) m3 c3)) (h : g1 < g2 ∧ g2 < g3) :
    Rows w B [.slice (some ⟨g1, 0, none⟩) m1 c1, .slice (some ⟨g2, 0, none⟩) m2 c2, .slice (some ⟨g3, 0, none⟩) m3 c3, .slice none 0 0, .slice none 0 0, .slice none 0 0] := by
  have r4 := row_nil w B
  refine ⟨fun v hv => ?_, fun u hu v hv e => ?_⟩
  · simp only [List.mem_cons, List.not_mem_nil, or_false] at hv
    rcases hv with rfl | rfl | rfl | rfl | rfl | rfl <;> assumption
  · simp only [List.mem_cons, List.not_mem_nil, or_false] at hu hv
    rcases hu with rfl | rfl | rfl | rfl | rfl | rfl <;> rcases hv with rfl | rfl | rfl | rfl | rfl | rfl <;> first | exact Or.inr rfl | exact Or.inl rfl | (simp only [Value.ownBlock, Option.some.injEq] at e; first | omega | cases e)
/-- One bit of a row is turned. -/
theorem RowOK.flip {w : World} {B : Nat} {A : Option Addr} {m c : Nat} (h : RowOK w B (.slice A m c)) : ∃ ys, ys.length = m ∧ m ≤ 1000000 ∧ Ow w B (.slice A m c) ys := by
  obtain ⟨A', m', c', ys, e, hl, hm, ho⟩ := h
  simp only [Value.slice.injEq] at e
  obtain ⟨rfl, rfl, rfl⟩ := e
  exact ⟨ys, hl, hm, ho⟩

/-- What is read behind a write. -/
theorem rdV_set {xs : List Bool} {n : Int} {v : Bool} (h : rdE xs n = 0) : rdV (xs.set n.toNat v) n = v := by
  unfold rdE at h
  by_cases hn : 0 ≤ n ∧ n < (xs.length : Int)
  · unfold rdV
    rw [if_pos (by rw [List.length_set]; exact hn)]
    have : n.toNat < xs.length := by omega
    simp [List.getD, this]
  · rw [if_neg hn] at h; omega
theorem rdE_set {xs : List Bool} {n : Int} {p : Nat} {v : Bool} : rdE (xs.set p v) n = rdE xs n := by unfold rdE; rw [List.length_set]
theorem rdV_set_ne {xs : List Bool} {n n' : Int} {v : Bool} (h : rdE xs n = 0) (hne : n ≠ n') : rdV (xs.set n.toNat v) n' = rdV xs n' := by
  unfold rdE at h
  by_cases hn : 0 ≤ n ∧ n < (xs.length : Int)
  · unfold rdV
    rw [List.length_set]
    by_cases hn' : 0 ≤ n' ∧ n' < (xs.length : Int)
    · rw [if_pos hn', if_pos hn']
      have : n.toNat ≠ n'.toNat := by omega
      simp [List.getD, this]
    · rw [if_neg hn', if_neg hn']
  · rw [if_neg hn] at h; omega
theorem read_written {x0 x1 x2 : List Bool} {k n : Int} {v : Bool} (h : wrE x1 x2 k n = 0) : rdSV x0 (wrQ x1 k n v) (wrM x2 k n v) k n = v ∧ rdSE x0 (wrQ x1 k n v) (wrM x2 k n v) k n = 0 := by
  unfold wrE at h
  by_cases k1 : k = 1
  · rw [if_pos k1] at h
    subst k1
    unfold rdSV rdSE wrQ
    simp only [if_neg (show ¬ (1 : Int) = 0 by decide), if_true]
    exact ⟨rdV_set h, by rw [rdE_set]; exact h⟩
  · rw [if_neg k1] at h
    by_cases k2 : k = 2
    · rw [if_pos k2] at h
      subst k2
      unfold rdSV rdSE wrM
      simp only [if_neg (show ¬ (2 : Int) = 0 by decide), if_neg (show ¬ (2 : Int) = 1 by decide), if_true]
      exact ⟨rdV_set h, by rw [rdE_set]; exact h⟩
    · rw [if_neg k2] at h; omega
theorem wrQ_E {x : List Bool} {k n n' : Int} {v : Bool} : rdE (wrQ x k n v) n' = rdE x n' := by unfold wrQ; split; exact rdE_set; rfl
theorem wrM_E {x : List Bool} {k n n' : Int} {v : Bool} : rdE (wrM x k n v) n' = rdE x n' := by unfold wrM; split; exact rdE_set; rfl
theorem read_other_E {x0 x1 x2 : List Bool} {k n k' n' : Int} {v : Bool} : rdSE x0 (wrQ x1 k n v) (wrM x2 k n v) k' n' = rdSE x0 x1 x2 k' n' := by
  unfold rdSE; rw [wrQ_E, wrM_E]
theorem read_other_V {x0 x1 x2 : List Bool} {k n k' n' : Int} {v : Bool} (h : wrE x1 x2 k n = 0) (hne : ¬ (k = k' ∧ n = n')) : rdSV x0 (wrQ x1 k n v) (wrM x2 k n v) k' n' = rdSV x0 x1 x2 k' n' := by
  unfold wrE at h
  by_cases k1 : k = 1
  · rw [if_pos k1] at h
    subst k1
    rw [show wrQ x1 1 n v = x1.set n.toNat v from if_pos rfl, show wrM x2 1 n v = x2 from if_neg (by decide)]
    unfold rdSV
    by_cases z1 : k' = 1
    · rw [rdV_set_ne h (fun e => hne ⟨z1.symm, e⟩)]
    · rw [if_neg z1, if_neg z1]
  · rw [if_neg k1] at h
    by_cases k2 : k = 2
    · rw [if_pos k2] at h
      subst k2
      rw [show wrQ x1 2 n v = x1 from if_neg (by decide), show wrM x2 2 n v = x2.set n.toNat v from if_pos rfl]
      unfold rdSV
      by_cases z2 : k' = 2
      · rw [rdV_set_ne h (fun e => hne ⟨z2.symm, e⟩)]
      · rw [if_neg z2, if_neg z2]
    · rw [if_neg k2] at h; omega
end Go.Proofs.Ytndapcbjcannhaa
