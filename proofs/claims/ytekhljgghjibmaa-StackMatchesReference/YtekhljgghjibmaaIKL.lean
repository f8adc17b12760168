/- Words for the walk of StackMatchesReference: a stack and the reference's stack side by side. No condition. -/
import Derived.Test.YtekhljgghjibmaaIKI
namespace Go.Proofs.Ytekhljgghjibmaa
open Go.RowKit

/-- The cells of a slice read as the list of acts. -/
def RdA (w : World) (A : Option Addr) (xs : List (Int × ByteArray)) : Prop := ∀ (k : Nat) (a : Int × ByteArray), xs[k]? = some a → ∃ ad, A = some ad ∧ w.cell? (ad.add (k * 2)) = some (.int .i64 a.1) ∧ w.cell? (ad.add (k * 2 + 1)) = some (.string a.2)
theorem RdA.nx {w w' : World} {A : Option Addr} {xs : List (Int × ByteArray)} (h : RdA w A xs) (k : Nx w w') : RdA w' A xs := fun i b hi => by
  obtain ⟨ad, e, h1, h2⟩ := h i b hi
  exact ⟨ad, e, k.cell h1, k.cell h2⟩
theorem RdA.two {w : World} {A : Option Addr} {xs : List (Int × ByteArray)} (h : RdA w A xs) (k : Nat) (a : Int) (x : ByteArray) (hk : xs[k]? = some (a, x)) : ∃ ad, A = some ad ∧ w.cell? (ad.add (k * 2)) = some (.int .i64 a) ∧ w.cell? ⟨(ad.add (k * 2)).block, (ad.add (k * 2)).off + 1, none⟩ = some (.string x) := by
  obtain ⟨ad, e, h1, h2⟩ := h k (a, x) hk
  refine ⟨ad, e, h1, ?_⟩
  rw [← Addr.add_add] at h2
  rw [← h2]
  exact congrArg w.cell? (Addr.add_succ' _ 0).symm
theorem act_at (xs : List (Int × ByteArray)) (k : Nat) (h : k < xs.length) : ∃ kd x, xs[k]? = some (kd, x) := ⟨xs[k].1, xs[k].2, List.getElem?_eq_getElem h⟩

def strs (l : List ByteArray) : List Value := l.map Value.string
theorem strs_one (l : List ByteArray) : ∀ u ∈ strs l, u.oneCell' = true := by
  intro u hu; obtain ⟨b, _, rfl⟩ := List.mem_map.1 hu; rfl
theorem strs_len (l : List ByteArray) : (strs l).length = l.length := by simp [strs]
theorem strs_snoc (l : List ByteArray) (x : ByteArray) : strs l ++ [.string x] = strs (l ++ [x]) := by simp [strs]
theorem strs_at {l : List ByteArray} {k : Nat} {x : ByteArray} (h : l[k]? = some x) : (strs l)[k]? = some (.string x) := by simp [strs, h]
theorem str_at (l : List ByteArray) (k : Nat) (h : k < l.length) : ∃ x, l[k]? = some x := ⟨l[k], List.getElem?_eq_getElem h⟩

/-- Both stacks hold the same, and lie apart. -/
structure Par (w wr : World) (b1 b2 cap : Nat) (o1 o2 : Option Nat) (md : Nat) (l : List ByteArray) : Prop where
  s1 : Stk wr 78 9 w.heap.size b1 o1 cap md (strs l)
  s2 : Stk wr 32 9 w.heap.size b2 o2 cap md (strs l)
  hb : b1 ≠ b2
  h12 : o1 ≠ some b2
  h21 : o2 ≠ some b1
  ho : ∀ j, o1 = some j → o2 ≠ some j
  hl : l.length ≤ cap
  nx : Nx w wr
section
variable {w wr w' : World} {b1 b2 cap md : Nat} {o1 o2 : Option Nat} {l : List ByteArray}
theorem Par.own1 (h : Par w wr b1 b2 cap o1 o2 md l) : ∀ j, o1 = some j → w.heap.size ≤ j := fun j hj => (h.s1.own_lt j hj).1
theorem Par.own2 (h : Par w wr b1 b2 cap o1 o2 md l) : ∀ j, o2 = some j → w.heap.size ≤ j := fun j hj => (h.s2.own_lt j hj).1
theorem Par.later (h : Par w wr b1 b2 cap o1 o2 md l) (k : Nx wr w') : Par w w' b1 b2 cap o1 o2 md l := ⟨h.s1.nx k, h.s2.nx k, h.hb, h.h12, h.h21, h.ho, h.hl, h.nx.trans k⟩
/-- A block that was there and is none of the stacks'. -/
def Apart (g b1 b2 : Nat) (o1 o2 : Option Nat) : Prop := g ≠ b1 ∧ g ≠ b2 ∧ o1 ≠ some g ∧ o2 ≠ some g
theorem Par.apart (h : Par w wr b1 b2 cap o1 o2 md l) {g : Nat} (hg : wr.heap.size ≤ g) : Apart g b1 b2 o1 o2 :=
  ⟨by have := h.s1.lt; omega, by have := h.s2.lt; omega, fun e => by have := (h.s1.own_lt g e).2; omega, fun e => by have := (h.s2.own_lt g e).2; omega⟩
theorem Par.set (h : Par w wr b1 b2 cap o1 o2 md l) {g i : Nat} (hg : Apart g b1 b2 o1 o2) (hw : w.heap.size ≤ g) (v : Value) : Par w (wr.setCell ⟨g, i, none⟩ v) b1 b2 cap o1 o2 md l :=
  ⟨h.s1.far hg.1 hg.2.2.1 v, h.s2.far hg.2.1 hg.2.2.2 v, h.hb, h.h12, h.h21, h.ho, h.hl, h.nx.set hw v⟩
/-- The first stack pushed, the second not yet. -/
structure Half (w wr w' : World) (b1 b2 cap : Nat) (o1 o1' o2 : Option Nat) (md : Nat) (l : List ByteArray) (x : ByteArray) : Prop where
  s1 : Stk w' 78 9 w.heap.size b1 o1' cap (max md (l.length + 1)) (strs (l ++ [x]))
  s2 : Stk w' 32 9 w.heap.size b2 o2 cap md (strs l)
  hb : b1 ≠ b2
  h12 : o1' ≠ some b2
  h21 : o2 ≠ some b1
  ho : ∀ j, o1' = some j → o2 ≠ some j
  nx : Nx w w'
  hm : Mv b1 o1 wr w'
theorem Par.push1 (h : Par w wr b1 b2 cap o1 o2 md l) {x : ByteArray} {o1' : Option Nat} (hs : Stk w' 78 9 w.heap.size b1 o1' cap (max md ((strs l).length + 1)) (strs l ++ [.string x])) (hq : o1' = o1 ∨ ∀ j, o1' = some j → wr.heap.size ≤ j) (hm : Mv b1 o1 wr w') :
    Half w wr w' b1 b2 cap o1 o1' o2 md l x := by
  rw [strs_len, strs_snoc] at hs
  refine ⟨hs, h.s2.mv hm (Ne.symm h.hb) h.h12 h.h21 (fun j hj e => h.ho j e hj), h.hb, ?_, h.h21, ?_, h.nx.mv hm hs.base_le h.own1, hm⟩
  · rcases hq with rfl | hq
    · exact h.h12
    · intro e; have := hq b2 e; have := h.s2.lt; omega
  · rcases hq with rfl | hq
    · exact h.ho
    · intro j hj e; have := hq j hj; have := (h.s2.own_lt j e).2; omega
theorem Half.later {wx : World} {x : ByteArray} {o1' : Option Nat} (h : Half w wr w' b1 b2 cap o1 o1' o2 md l x) (k : Nx w' wx) : Half w wr wx b1 b2 cap o1 o1' o2 md l x := ⟨h.s1.nx k, h.s2.nx k, h.hb, h.h12, h.h21, h.ho, h.nx.trans k, h.hm.nx k⟩
theorem Half.push2 {wx : World} {x : ByteArray} {o1' o2' : Option Nat} (h : Half w wr wx b1 b2 cap o1 o1' o2 md l x) (hl : l.length < cap) (hs : Stk w' 32 9 w.heap.size b2 o2' cap (max md ((strs l).length + 1)) (strs l ++ [.string x])) (hq : ∀ j, o2' = some j → wx.heap.size ≤ j) (hm : Mv b2 none wx w') :
    Par w w' b1 b2 cap o1' o2' (max md (l.length + 1)) (l ++ [x]) := by
  rw [strs_len, strs_snoc] at hs
  refine ⟨h.s1.mv hm h.hb (by simp) h.h12 (by simp), hs, h.hb, h.h12, fun e => by have := hq b1 e; have := h.s1.lt; omega, fun j hj e => by have := hq j e; have := (h.s1.own_lt j hj).2; omega, by simp; omega, h.nx.mv hm hs.base_le (fun j hj => by cases hj)⟩
theorem Par.pop {x : ByteArray} (h : Par w wr b1 b2 cap o1 o2 md (l ++ [x])) {wx : World} (hs : Stk wx 78 9 w.heap.size b1 o1 cap md (strs l)) (hm : Mv b1 o1 wr wx) :
    Stk wx 32 9 w.heap.size b2 o2 cap md (strs l ++ [.string x]) ∧ Nx w wx ∧
    ∀ w', Stk w' 32 9 w.heap.size b2 o2 cap md (strs l) → Mv b2 none wx w' → Par w w' b1 b2 cap o1 o2 md l := by
  have hn := h.nx.mv hm hs.base_le h.own1
  have h2 := h.s2.mv hm (Ne.symm h.hb) h.h12 h.h21 (fun j hj e => h.ho j e hj)
  rw [← strs_snoc] at h2
  have hl := h.hl
  rw [List.length_append, List.length_singleton] at hl
  exact ⟨h2, hn, fun w' k hk => ⟨hs.mv hk h.hb (by simp) h.h12 (by simp), k, h.hb, h.h12, h.h21, h.ho, by omega, hn.mv hk k.base_le (fun j hj => by cases hj)⟩⟩
theorem Par.clear (h : Par w wr b1 b2 cap o1 o2 md l) {wx : World} (hs : Stk wx 78 9 w.heap.size b1 none cap md []) (hm : Mv b1 o1 wr wx) :
    Par w (wx.setCell ⟨b2, 0, none⟩ (.slice none 0 0)) b1 b2 cap none none md [] ∧ ∃ A n c, wx.cell? ⟨b2, 0, none⟩ = some (.slice A n c) ∧ wx.frozen? ⟨b2, 0, none⟩ = false := by
  have hn := h.nx.mv hm hs.base_le h.own1
  have h2 := h.s2.mv hm (Ne.symm h.hb) h.h12 h.h21 (fun j hj e => h.ho j e hj)
  obtain ⟨h3, _, v, _, hb, ho⟩ := h2
  obtain ⟨A, c, rfl, _⟩ := own_form ho
  exact ⟨⟨hs.far (Ne.symm h.hb) (by simp) _, ⟨h3, (by simp), .slice none 0 0, rfl, hb.put 0 _, World.ownsRow_nil _ _ _ _⟩, h.hb, (by simp), (by simp), (by simp), Nat.zero_le _, hn.set h3 _⟩, A, _, c, hb.cell 0 rfl, hb.frozen 0⟩
theorem Par.read2 (h : Par w wr b1 b2 cap o1 o2 md l) : ∃ A c, wr.cell? ⟨b2, 0, none⟩ = some (.slice A l.length c) ∧ wr.cell? ⟨b2, 2, none⟩ = some (.int .i64 (md : Int)) ∧
    ∀ (k : Nat) (x : ByteArray), l[k]? = some x → ∃ ad, A = some ad ∧ wr.cell? (ad.add k) = some (.string x) := by
  obtain ⟨_, _, v, _, hb, ho⟩ := h.s2
  obtain ⟨A, c, rfl, hc⟩ := own_form ho
  have c0 := hb.cell 0 rfl
  rw [strs_len] at c0
  exact ⟨A, c, c0, hb.cell 2 rfl, fun k x hk => hc k _ (strs_at hk)⟩
end
end Go.Proofs.Ytekhljgghjibmaa
