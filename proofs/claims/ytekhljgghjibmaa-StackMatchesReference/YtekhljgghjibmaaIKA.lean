/- Words for a bounded stack in memory: a struct of a slice, a capacity and a greatest depth, and what else may turn. No condition. -/
import Derived.Test.YtekhljgghjibmaaIS0
import Derived.Laws.CopyOwn
import Derived.Deep.AppendLies
namespace Go.Proofs.Ytekhljgghjibmaa
open Go.RowKit

/-- Nothing that was there has turned, but for block b and the block o. -/
structure Mv (b : Nat) (o : Option Nat) (w w' : World) : Prop where
  os : w'.os = w.os
  tape : w'.tape = w.tape
  output : w'.output = w.output
  size : w.heap.size ≤ w'.heap.size
  block : ∀ k, k < w.heap.size → k ≠ b → some k ≠ o → w'.heap[k]? = w.heap[k]?
theorem Mv.of_nx {w w' : World} (h : Nx w w') (b : Nat) (o : Option Nat) : Mv b o w w' := ⟨h.os, h.tape, h.output, h.size, fun k hk _ _ => h.block k hk⟩
theorem Mv.refl (b : Nat) (o : Option Nat) (w : World) : Mv b o w w := Mv.of_nx (Nx.refl w) b o
theorem Mv.trans {b : Nat} {o o' : Option Nat} {w w1 w2 : World} (h : Mv b o w w1) (k : Mv b o' w1 w2) (ho : o' = o ∨ ∀ j, o' = some j → w.heap.size ≤ j) : Mv b o w w2 :=
  ⟨k.os.trans h.os, k.tape.trans h.tape, k.output.trans h.output, Nat.le_trans h.size k.size, fun i hi h1 h2 =>
    (k.block i (Nat.lt_of_lt_of_le hi h.size) h1 (by rcases ho with rfl | ho; exact h2; intro e; have := ho i e.symm; omega)).trans (h.block i hi h1 h2)⟩
theorem Mv.nx {b : Nat} {o : Option Nat} {w w1 w2 : World} (h : Mv b o w w1) (k : Nx w1 w2) : Mv b o w w2 := h.trans (Mv.of_nx k b o) (.inl rfl)
theorem Mv.set {b : Nat} {o : Option Nat} {w w' : World} (h : Mv b o w w') (i : Nat) (v : Value) : Mv b o w (w'.setCell ⟨b, i, none⟩ v) :=
  h.trans ⟨rfl, rfl, rfl, by simp [World.setCell], fun k _ hk _ => Deep.blk_setCell_other w' _ v k hk⟩ (.inl rfl)
theorem Mv.setOwn {b g : Nat} {o : Option Nat} {w w' : World} (h : Mv b o w w') (ho : o = some g) (i : Nat) (v : Value) : Mv b o w (w'.setCell ⟨g, i, none⟩ v) :=
  h.trans ⟨rfl, rfl, rfl, by simp [World.setCell], fun k _ _ hk => Deep.blk_setCell_other w' _ v k (fun e => hk (by rw [ho, e]))⟩ (.inl rfl)
theorem Mv.grown {b : Nat} {o : Option Nat} {w w1 w2 : World} (h : Mv b o w w1) (hg : w1.grownBy w2 o) : Mv b o w w2 :=
  h.trans ⟨hg.os, hg.tape, hg.output, hg.size, fun k hk _ ho => hg.block k hk ho⟩ (.inl rfl)
theorem Mv.cell {b : Nat} {o : Option Nat} {w w' : World} (h : Mv b o w w') {p : Addr} {v : Value} (hc : w.cell? p = some v) (h1 : p.block ≠ b) (h2 : o ≠ some p.block) : w'.cell? p = some v :=
  (World.cell?_of_block (h.block p.block (World.block_lt_of_cell? w p hc) h1 (fun e => h2 e.symm))).trans hc
theorem Nx.mv {b : Nat} {o : Option Nat} {W w w' : World} (h : Nx W w) (k : Mv b o w w') (hb : W.heap.size ≤ b) (ho : ∀ j, o = some j → W.heap.size ≤ j) : Nx W w' :=
  ⟨k.os.trans h.os, k.tape.trans h.tape, k.output.trans h.output, Nat.le_trans h.size k.size, fun i hi =>
    (k.block i (Nat.lt_of_lt_of_le hi h.size) (by omega) (fun e => by have := ho i e.symm; omega)).trans (h.block i hi)⟩

theorem own_of {w w' : World} {base : Nat} {e : TypeId} {size : Nat} {v : Value} {n : Nat} {xs : List Value} (h : w.ownsRow base e size v n xs) (k : ∀ g, v.ownBlock = some g → g < w.heap.size → w'.heap[g]? = w.heap[g]?) : w'.ownsRow base e size v n xs := by
  refine ⟨h.1, ?_⟩
  rcases h.2 with hn | ⟨g, cap, cur, rfl, hb, hg, rest⟩
  · exact .inl hn
  · exact .inr ⟨g, cap, cur, rfl, hb, (k g rfl (Array.getElem?_eq_some_iff.1 hg).1).trans hg, rest⟩
theorem grown_nx_l {w w1 w2 : World} {row : Option Nat} (h : Nx w w1) (k : w1.grownBy w2 row) : w.grownBy w2 row :=
  ⟨k.os.trans h.os, k.tape.trans h.tape, k.output.trans h.output, Nat.le_trans h.size k.size, fun i hi hr => (k.block i (Nat.lt_of_lt_of_le hi h.size) hr).trans (h.block i hi)⟩
theorem bx_of {w w' : World} {g : Nat} {T : TypeId} {vs : List Value} (h : Bx w g T vs) (k : w'.heap[g]? = w.heap[g]?) : Bx w' g T vs := k.trans h

/-- A stack at block b, its elements xs in the block o: of the struct type T, elements of type E. -/
def Stk (w : World) (T E : TypeId) (base b : Nat) (o : Option Nat) (cap md : Nat) (xs : List Value) : Prop :=
  base ≤ b ∧ o ≠ some b ∧ ∃ v, v.ownBlock = o ∧ Bx w b T [v, .int .i64 (cap : Int), .int .i64 (md : Int)] ∧ w.ownsRow base E 1 v xs.length xs
section
variable {w w' : World} {T E : TypeId} {base b : Nat} {o : Option Nat} {cap md : Nat} {xs : List Value}
theorem Stk.base_le (h : Stk w T E base b o cap md xs) : base ≤ b := h.1
theorem Stk.lt (h : Stk w T E base b o cap md xs) : b < w.heap.size := by obtain ⟨_, _, v, _, hb, _⟩ := h; exact hb.lt
theorem Stk.own_lt (h : Stk w T E base b o cap md xs) : ∀ j, o = some j → base ≤ j ∧ j < w.heap.size := by
  obtain ⟨_, _, v, rfl, _, ho⟩ := h; exact ho.lt
theorem Stk.kept (h : Stk w T E base b o cap md xs) (k : ∀ j, j < w.heap.size → (j = b ∨ o = some j) → w'.heap[j]? = w.heap[j]?) : Stk w' T E base b o cap md xs := by
  have hlt := h.lt
  obtain ⟨h1, h2, v, h3, hb, ho⟩ := h
  exact ⟨h1, h2, v, h3, bx_of hb (k b hlt (.inl rfl)), own_of ho fun g hg hl => k g hl (.inr (by rw [← h3, hg]))⟩
theorem Stk.nx (h : Stk w T E base b o cap md xs) (k : Nx w w') : Stk w' T E base b o cap md xs := h.kept fun j hj _ => k.block j hj
/-- What another stack's calls leave alone. -/
theorem Stk.mv (h : Stk w T E base b o cap md xs) {b2 : Nat} {o2 : Option Nat} (k : Mv b2 o2 w w') (h1 : b ≠ b2) (h2 : o2 ≠ some b) (h3 : o ≠ some b2) (h4 : ∀ j, o = some j → o2 ≠ some j) : Stk w' T E base b o cap md xs :=
  h.kept fun j hj e => by
    rcases e with rfl | e
    · exact k.block j hj h1 (fun e => h2 e.symm)
    · exact k.block j hj (fun e' => h3 (by rw [e, e'])) (fun e' => h4 j e e'.symm)
/-- A store into a block that is neither. -/
theorem Stk.far (h : Stk w T E base b o cap md xs) {g i : Nat} (h1 : g ≠ b) (h2 : o ≠ some g) (v : Value) : Stk (w.setCell ⟨g, i, none⟩ v) T E base b o cap md xs :=
  h.kept fun j _ e => Deep.blk_setCell_other w _ v j (fun e' => by
    rcases e with rfl | e
    · exact h1 e'.symm
    · exact h2 (by rw [e, e']))
theorem Stk.low (h : Stk w T E base b o cap md xs) {base' : Nat} (hb : base' ≤ base) : Stk w T E base' b o cap md xs := by
  obtain ⟨h1, h2, v, h3, hx, ho⟩ := h
  refine ⟨Nat.le_trans hb h1, h2, v, h3, hx, ho.1, ?_⟩
  rcases ho.2 with hn | ⟨g, c, cur, e, hg, rest⟩
  · exact .inl hn
  · exact .inr ⟨g, c, cur, e, Nat.le_trans hb hg, rest⟩
end
theorem stk_new (w : World) (T E : TypeId) (cap : Nat) : Stk (w.alloc (.cells #[.slice none 0 0, .int .i64 (cap : Int), .int .i64 0] T)) T E w.heap.size w.heap.size none cap 0 [] :=
  ⟨Nat.le_refl _, (by simp), .slice none 0 0, rfl, heap_alloc_new w _, World.ownsRow_nil _ _ _ _⟩

/-- What New does. -/
def NewPost (T E : TypeId) (cap : Nat) (w : World) (e : Ending) (w' : World) : Prop :=
  e = .returned (.tuple #[.pointer (some ⟨w.heap.size, 0, none⟩), .int .i64 0]) ∧ Stk w' T E w.heap.size w.heap.size none cap 0 [] ∧ Nx w w' ∧ w'.heap.size = w.heap.size + 1
/-- What a Push that finds room does. -/
def PushPost (T E : TypeId) (base b : Nat) (o : Option Nat) (cap md : Nat) (xs : List Value) (w : World) (e : Ending) (w' : World) : Prop :=
  e = .returned (.int .i64 0) ∧ ∃ o', Stk w' T E base b o' cap md xs ∧ (o' = o ∨ ∀ j, o' = some j → w.heap.size ≤ j) ∧ Mv b o w w'
/-- What a Pop that finds an element does. -/
def PopPost (T E : TypeId) (base b : Nat) (o : Option Nat) (cap md : Nat) (xs : List Value) (x : Value) (w : World) (e : Ending) (w' : World) : Prop :=
  e = .returned (.tuple #[x, .int .i64 0]) ∧ Stk w' T E base b o cap md xs ∧ Mv b o w w'
/-- What All does. -/
def AllPost (E : TypeId) (xs : List Value) (w : World) (e : Ending) (w' : World) : Prop :=
  e = .returned (.slice (some ⟨w.heap.size, 0, none⟩) xs.length xs.length) ∧ w'.ownsRow w.heap.size E 1 (.slice (some ⟨w.heap.size, 0, none⟩) xs.length xs.length) xs.length xs ∧ Nx w w'
theorem push_done {w w2 : World} {T E : TypeId} {base b g n cc cap md md' : Nat} {o : Option Nat} {v : Value} {ys : List Value} (hb : base ≤ b) (hlt : b < w.heap.size) (hob : o ≠ some b) (hv : v.ownBlock = o)
    (hx : Bx w2 b T [v, .int .i64 (cap : Int), .int .i64 (md : Int)]) (ho : w2.ownsRow base E 1 (.slice (some ⟨g, 0, none⟩) n cc) n ys) (hg : w.grownBy w2 v.ownBlock) (hl : v.ownBlock = some g ∨ g = w.heap.size + 1)
    {w3 : World} (h3 : w3 = ((w2.setCell ⟨b, 0, none⟩ (.slice (some ⟨g, 0, none⟩) n cc)).setCell ⟨b, 2, none⟩ (.int .i64 (md' : Int))).drew) :
    ∃ o', Stk w3 T E base b o' cap md' ys ∧ (o' = o ∨ ∀ j, o' = some j → w.heap.size ≤ j) ∧ Mv b o w w3 := by
  subst h3
  have hne : g ≠ b := by
    rcases hl with hl | hl
    · intro e; subst e; exact hob (by rw [← hv, hl])
    · omega
  have hn : n = ys.length := by have := ho.1; omega
  subst hn
  refine ⟨some g, ⟨hb, (by simpa using hne), .slice (some ⟨g, 0, none⟩) ys.length cc, rfl, (hx.put 0 _).put 2 _, own_of ho fun k hk _ => ?_⟩, ?_, ?_⟩
  · obtain rfl : g = k := by simpa [Value.ownBlock] using hk
    exact (Deep.blk_setCell_other _ _ _ g hne).trans (Deep.blk_setCell_other _ _ _ g hne)
  · rcases hl with hl | hl
    · exact .inl (by rw [← hv, hl])
    · right; intro j hj; obtain rfl := Option.some.inj hj; omega
  · have h0 : Mv b o w w2 := (Mv.refl b o w).grown (by rw [← hv]; exact hg)
    exact ((h0.set 0 _).set 2 _).nx ((Nx.refl _).drew)
theorem own_cap {w : World} {base g n c : Nat} {E : TypeId} {xs : List Value} (h : w.ownsRow base E 1 (.slice (some ⟨g, 0, none⟩) n c) n xs) : n ≤ c := by
  rcases h.2 with ⟨e, _⟩ | ⟨g', c', cur, e, _, _, hc, _⟩
  · cases e
  · simp only [Value.slice.injEq] at e
    omega
theorem own_less {w : World} {base g n c : Nat} {E : TypeId} {xs : List Value} {x : Value} (h : w.ownsRow base E 1 (.slice (some ⟨g, 0, none⟩) (n + 1) c) (n + 1) (xs ++ [x])) (hn : xs.length = n) : w.ownsRow base E 1 (.slice (some ⟨g, 0, none⟩) n c) n xs := by
  rcases h.2 with ⟨e, _⟩ | ⟨g', c', cur, e, hb, hg, hc, hm, hs, ht⟩
  · cases e
  · simp only [Value.slice.injEq, Option.some.injEq, Addr.mk.injEq, and_true, true_and] at e
    obtain ⟨rfl, rfl⟩ := e
    refine ⟨by omega, .inr ⟨g, c, cur, rfl, hb, hg, by omega, hm, hs, ?_⟩⟩
    have := congrArg (List.take n) ht
    rw [List.take_take, Nat.mul_one, Nat.min_eq_left (by omega)] at this
    rw [Nat.mul_one, this, ← hn]
    simp
/-- The last element let go. -/
theorem own_pop {w : World} {base g n c : Nat} {E : TypeId} {xs : List Value} {x : Value} (h : w.ownsRow base E 1 (.slice (some ⟨g, 0, none⟩) (n + 1) c) (n + 1) (xs ++ [x])) (hn : xs.length = n) (u : Value) :
    (w.setCell ⟨g, n, none⟩ u).ownsRow base E 1 (.slice (some ⟨g, 0, none⟩) n c) n xs := by
  have h' := (h.stored n u).1
  rcases h'.2 with ⟨e, _⟩ | ⟨g', c', cur, e, hb, hg, hc, hm, hs, ht⟩
  · cases e
  · simp only [Value.slice.injEq, Option.some.injEq, Addr.mk.injEq, and_true, true_and] at e
    obtain ⟨rfl, rfl⟩ := e
    refine ⟨by omega, .inr ⟨g, c, cur, rfl, hb, hg, by omega, hm, hs, ?_⟩⟩
    have := congrArg (List.take n) ht
    rw [List.take_take, Nat.mul_one, Nat.min_eq_left (by omega)] at this
    rw [Nat.mul_one, this, ← hn]
    simp
theorem pop_done {w : World} {T E : TypeId} {base b g n c cap md : Nat} {xs : List Value} {z v : Value} (hb : base ≤ b) (hne : g ≠ b)
    (hx : Bx (w.setCell ⟨g, n, none⟩ z) b T [v, .int .i64 (cap : Int), .int .i64 (md : Int)]) (ho : (w.setCell ⟨g, n, none⟩ z).ownsRow base E 1 (.slice (some ⟨g, 0, none⟩) n c) n xs) (hn : xs.length = n) :
    Stk ((w.setCell ⟨g, n, none⟩ z).setCell ⟨b, 0, none⟩ (.slice (some ⟨g, 0, none⟩) n c)) T E base b (some g) cap md xs ∧ Mv b (some g) w ((w.setCell ⟨g, n, none⟩ z).setCell ⟨b, 0, none⟩ (.slice (some ⟨g, 0, none⟩) n c)) := by
  subst hn
  refine ⟨⟨hb, (by simpa using hne), .slice (some ⟨g, 0, none⟩) xs.length c, rfl, hx.put 0 _, own_of ho fun k hk _ => ?_⟩, ((Mv.refl b _ w).setOwn rfl _ _).set 0 _⟩
  obtain rfl : g = k := by simpa [Value.ownBlock] using hk
  exact Deep.blk_setCell_other _ _ _ g hne
theorem own_block {w : World} {g base m : Nat} {E : TypeId} {xs : List Value} (hm : xs.length = m) (hb : base ≤ g) (h : w.heap[g]? = some (.cells xs.toArray E (0, 0))) (hl : m ≤ 1000000) : w.ownsRow base E 1 (.slice (some ⟨g, 0, none⟩) m m) m xs := by
  subst hm
  exact ⟨by simp, .inr ⟨g, xs.length, xs.toArray, rfl, hb, h, Nat.le_refl _, by unfold maxLen; omega, by simp, by simp [List.take_of_length_le]⟩⟩
theorem splice_whole (m : Nat) (z : Value) (xs : List Value) (h : xs.length = m) : splice (List.replicate m z) 0 xs = xs := by
  unfold splice; simp [h]
end Go.Proofs.Ytekhljgghjibmaa
