/- Words for a bounded stack in memory: a struct of a slice, a capacity and a greatest depth, and what else may turn. No condition. What New, Depth, MaxDepth and Clear of a stack return. What Push of a stack does. What Pop and All of a stack do. A rule for a region whose operations come in any order but for one that comes last (a store into what the others read): what each yields is said once. A rule for a region whose operations come in any order, in two parts: before and behind one operation that may turn what the earlier ones yielded (an append into a row's spare, and the store behind it). The frame behind a region whose operations come in any order, written out: the slots hold what the operations yielded, in the order of the text. The rule for a region in any order, with a fact on the whole frame that each operation keeps. Conditions: as each theorem states them. -/
import Derived.Test.YtdpccnpaajhliaaMA
import Derived.Laws.CopyOwn
import Derived.Deep.AppendLies
namespace Go.Proofs.Ytdpccnpaajhliaa
section
open Go.RowKit

/-- Nothing that was there has turned, but for block b and the block o. -/
structure Mv (b : Nat) (o : Option Nat) (w w' : World) : Prop where
  os : w'.os = w.os
  tape : w'.tape = w.tape
  output : w'.output = w.output
  size : w.heap.size ≤ w'.heap.size
  block : ∀ k, k < w.heap.size → k ≠ b → some k ≠ o → w'.heap[k]? = w.heap[k]?
theorem Mv.of_nx {w w' : World} (h : Nx w w') (b : Nat) (o : Option Nat) : Mv b o w w' := ⟨h.os, h.tape, h.output, h.size, fun k hk _ _ => h.block k hk⟩
theorem Mv.refl (b : Nat) (o : Option Nat) (w : World) : Mv b o w w := Mv.of_nx (Nx.refl w) b o
theorem Mv.trans {b : Nat} {o o' : Option Nat} {w w1 w2 : World} (h : Mv b o w w1) (k : Mv b o' w1 w2) (ho : o' = o ∨ ∀ j, o' = some j → w.heap.size ≤ j) : Mv b o w w2 :=
  ⟨k.os.trans h.os, k.tape.trans h.tape, k.output.trans h.output, Nat.le_trans h.size k.size, fun i hi h1 h2 =>
    (k.block i (Nat.lt_of_lt_of_le hi h.size) h1 (by rcases ho with rfl | ho; exact h2; intro e; have := ho i e.symm; omega)).trans (h.block i hi h1 h2)⟩
theorem Mv.nx {b : Nat} {o : Option Nat} {w w1 w2 : World} (h : Mv b o w w1) (k : Nx w1 w2) : Mv b o w w2 := h.trans (Mv.of_nx k b o) (.inl rfl)
theorem Mv.set {b : Nat} {o : Option Nat} {w w' : World} (h : Mv b o w w') (i : Nat) (v : Value) : Mv b o w (w'.setCell ⟨b, i, none⟩ v) :=
  h.trans ⟨rfl, rfl, rfl, by simp [World.setCell], fun k _ hk _ => Deep.blk_setCell_other w' _ v k hk⟩ (.inl rfl)
theorem Mv.setOwn {b g : Nat} {o : Option Nat} {w w' : World} (h : Mv b o w w') (ho : o = some g) (i : Nat) (v : Value) : Mv b o w (w'.setCell ⟨g, i, none⟩ v) :=
  h.trans ⟨rfl, rfl, rfl, by simp [World.setCell], fun k _ _ hk => Deep.blk_setCell_other w' _ v k (fun e => hk (by rw [ho, e]))⟩ (.inl rfl)
theorem Mv.grown {b : Nat} {o : Option Nat} {w w1 w2 : World} (h : Mv b o w w1) (hg : w1.grownBy w2 o) : Mv b o w w2 :=
  h.trans ⟨hg.os, hg.tape, hg.output, hg.size, fun k hk _ ho => hg.block k hk ho⟩ (.inl rfl)
theorem Mv.cell {b : Nat} {o : Option Nat} {w w' : World} (h : Mv b o w w') {p : Addr} {v : Value} (hc : w.cell? p = some v) (h1 : p.block ≠ b) (h2 : o ≠ some p.block) : w'.cell? p = some v :=
  (World.cell?_of_block (h.block p.block (World.block_lt_of_cell? w p hc) h1 (fun e => h2 e.symm))).trans hc
theorem Nx.mv {b : Nat} {o : Option Nat} {W w w' : World} (h : Nx W w) (k : Mv b o w w') (hb : W.heap.size ≤ b) (ho : ∀ j, o = some j → W.heap.size ≤ j) : Nx W w' :=
  ⟨k.os.trans h.os, k.tape.trans h.tape, k.output.trans h.output, Nat.le_trans h.size k.size, fun i hi =>
    (k.block i (Nat.lt_of_lt_of_le hi h.size) (by omega) (fun e => by have := ho i e.symm; omega)).trans (h.block i hi)⟩

theorem own_of {w w' : World} {base : Nat} {e : TypeId} {size : Nat} {v : Value} {n : Nat} {xs : List Value} (h : w.ownsRow base e size v n xs) (k : ∀ g, v.ownBlock = some g → g < w.heap.size → w'.heap[g]? = w.heap[g]?) : w'.ownsRow base e size v n xs := by
  refine ⟨h.1, ?_⟩
  rcases h.2 with hn | ⟨g, cap, cur, rfl, hb, hg, rest⟩
  · exact .inl hn
  · exact .inr ⟨g, cap, cur, rfl, hb, (k g rfl (Array.getElem?_eq_some_iff.1 hg).1).trans hg, rest⟩
theorem grown_nx_l {w w1 w2 : World} {row : Option Nat} (h : Nx w w1) (k : w1.grownBy w2 row) : w.grownBy w2 row :=
  ⟨k.os.trans h.os, k.tape.trans h.tape, k.output.trans h.output, Nat.le_trans h.size k.size, fun i hi hr => (k.block i (Nat.lt_of_lt_of_le hi h.size) hr).trans (h.block i hi)⟩
theorem bx_of {w w' : World} {g : Nat} {T : TypeId} {vs : List Value} (h : Bx w g T vs) (k : w'.heap[g]? = w.heap[g]?) : Bx w' g T vs := k.trans h

/-- A stack at block b, its elements xs in the block o: of the struct type T, elements of type E. -/
def Stk (w : World) (T E : TypeId) (base b : Nat) (o : Option Nat) (cap md : Nat) (xs : List Value) : Prop :=
  base ≤ b ∧ o ≠ some b ∧ ∃ v, v.ownBlock = o ∧ Bx w b T [v, .int .i64 (cap : Int), .int .i64 (md : Int)] ∧ w.ownsRow base E 1 v xs.length xs
section
variable {w w' : World} {T E : TypeId} {base b : Nat} {o : Option Nat} {cap md : Nat} {xs : List Value}
theorem Stk.base_le (h : Stk w T E base b o cap md xs) : base ≤ b := h.1
theorem Stk.lt (h : Stk w T E base b o cap md xs) : b < w.heap.size := by obtain ⟨_, _, v, _, hb, _⟩ := h; exact hb.lt
theorem Stk.own_lt (h : Stk w T E base b o cap md xs) : ∀ j, o = some j → base ≤ j ∧ j < w.heap.size := by
  obtain ⟨_, _, v, rfl, _, ho⟩ := h; exact ho.lt
theorem Stk.kept (h : Stk w T E base b o cap md xs) (k : ∀ j, j < w.heap.size → (j = b ∨ o = some j) → w'.heap[j]? = w.heap[j]?) : Stk w' T E base b o cap md xs := by
  have hlt := h.lt
  obtain ⟨h1, h2, v, h3, hb, ho⟩ := h
  exact ⟨h1, h2, v, h3, bx_of hb (k b hlt (.inl rfl)), own_of ho fun g hg hl => k g hl (.inr (by rw [← h3, hg]))⟩
theorem Stk.nx (h : Stk w T E base b o cap md xs) (k : Nx w w') : Stk w' T E base b o cap md xs := h.kept fun j hj _ => k.block j hj
/-- What another stack's calls leave alone. -/
theorem Stk.mv (h : Stk w T E base b o cap md xs) {b2 : Nat} {o2 : Option Nat} (k : Mv b2 o2 w w') (h1 : b ≠ b2) (h2 : o2 ≠ some b) (h3 : o ≠ some b2) (h4 : ∀ j, o = some j → o2 ≠ some j) : Stk w' T E base b o cap md xs :=
  h.kept fun j hj e => by
    rcases e with rfl | e
    · exact k.block j hj h1 (fun e => h2 e.symm)
    · exact k.block j hj (fun e' => h3 (by rw [e, e'])) (fun e' => h4 j e e'.symm)
/-- A store into a block that is neither. -/
theorem Stk.far (h : Stk w T E base b o cap md xs) {g i : Nat} (h1 : g ≠ b) (h2 : o ≠ some g) (v : Value) : Stk (w.setCell ⟨g, i, none⟩ v) T E base b o cap md xs :=
  h.kept fun j _ e => Deep.blk_setCell_other w _ v j (fun e' => by
    rcases e with rfl | e
    · exact h1 e'.symm
    · exact h2 (by rw [e, e']))
theorem Stk.low (h : Stk w T E base b o cap md xs) {base' : Nat} (hb : base' ≤ base) : Stk w T E base' b o cap md xs := by
  obtain ⟨h1, h2, v, h3, hx, ho⟩ := h
  refine ⟨Nat.le_trans hb h1, h2, v, h3, hx, ho.1, ?_⟩
  rcases ho.2 with hn | ⟨g, c, cur, e, hg, rest⟩
  · exact .inl hn
  · exact .inr ⟨g, c, cur, e, Nat.le_trans hb hg, rest⟩
end
theorem stk_new (w : World) (T E : TypeId) (cap : Nat) : Stk (w.alloc (.cells #[.slice none 0 0, .int .i64 (cap : Int), .int .i64 0] T)) T E w.heap.size w.heap.size none cap 0 [] :=
  ⟨Nat.le_refl _, (by simp), .slice none 0 0, rfl, heap_alloc_new w _, World.ownsRow_nil _ _ _ _⟩

/-- What New does. -/
def NewPost (T E : TypeId) (cap : Nat) (w : World) (e : Ending) (w' : World) : Prop :=
  e = .returned (.tuple #[.pointer (some ⟨w.heap.size, 0, none⟩), .int .i64 0]) ∧ Stk w' T E w.heap.size w.heap.size none cap 0 [] ∧ Nx w w' ∧ w'.heap.size = w.heap.size + 1
/-- What a Push that finds room does. -/
def PushPost (T E : TypeId) (base b : Nat) (o : Option Nat) (cap md : Nat) (xs : List Value) (w : World) (e : Ending) (w' : World) : Prop :=
  e = .returned (.int .i64 0) ∧ ∃ o', Stk w' T E base b o' cap md xs ∧ (o' = o ∨ ∀ j, o' = some j → w.heap.size ≤ j) ∧ Mv b o w w'
/-- What a Pop that finds an element does. -/
def PopPost (T E : TypeId) (base b : Nat) (o : Option Nat) (cap md : Nat) (xs : List Value) (x : Value) (w : World) (e : Ending) (w' : World) : Prop :=
  e = .returned (.tuple #[x, .int .i64 0]) ∧ Stk w' T E base b o cap md xs ∧ Mv b o w w'
/-- What All does. -/
def AllPost (E : TypeId) (xs : List Value) (w : World) (e : Ending) (w' : World) : Prop :=
  e = .returned (.slice (some ⟨w.heap.size, 0, none⟩) xs.length xs.length) ∧ w'.ownsRow w.heap.size E 1 (.slice (some ⟨w.heap.size, 0, none⟩) xs.length xs.length) xs.length xs ∧ Nx w w'
theorem push_done {w w2 : World} {T E : TypeId} {base b g n cc cap md md' : Nat} {o : Option Nat} {v : Value} {ys : List Value} (hb : base ≤ b) (hlt : b < w.heap.size) (hob : o ≠ some b) (hv : v.ownBlock = o)
    (hx : Bx w2 b T [v, .int .i64 (cap : Int), .int .i64 (md : Int)]) (ho : w2.ownsRow base E 1 (.slice (some ⟨g, 0, none⟩) n cc) n ys) (hg : w.grownBy w2 v.ownBlock) (hl : v.ownBlock = some g ∨ g = w.heap.size + 1)
    {w3 : World} (h3 : w3 = ((w2.setCell ⟨b, 0, none⟩ (.slice (some ⟨g, 0, none⟩) n cc)).setCell ⟨b, 2, none⟩ (.int .i64 (md' : Int))).drew) :
    ∃ o', Stk w3 T E base b o' cap md' ys ∧ (o' = o ∨ ∀ j, o' = some j → w.heap.size ≤ j) ∧ Mv b o w w3 := by
  subst h3
  have hne : g ≠ b := by
    rcases hl with hl | hl
    · intro e; subst e; exact hob (by rw [← hv, hl])
    · omega
  have hn : n = ys.length := by have := ho.1; omega
  subst hn
  refine ⟨some g, ⟨hb, (by simpa using hne), .slice (some ⟨g, 0, none⟩) ys.length cc, rfl, (hx.put 0 _).put 2 _, own_of ho fun k hk _ => ?_⟩, ?_, ?_⟩
  · obtain rfl : g = k := by simpa [Value.ownBlock] using hk
    exact (Deep.blk_setCell_other _ _ _ g hne).trans (Deep.blk_setCell_other _ _ _ g hne)
  · rcases hl with hl | hl
    · exact .inl (by rw [← hv, hl])
    · right; intro j hj; obtain rfl := Option.some.inj hj; omega
  · have h0 : Mv b o w w2 := (Mv.refl b o w).grown (by rw [← hv]; exact hg)
    exact ((h0.set 0 _).set 2 _).nx ((Nx.refl _).drew)
theorem own_cap {w : World} {base g n c : Nat} {E : TypeId} {xs : List Value} (h : w.ownsRow base E 1 (.slice (some ⟨g, 0, none⟩) n c) n xs) : n ≤ c := by
  rcases h.2 with ⟨e, _⟩ | ⟨g', c', cur, e, _, _, hc, _⟩
  · cases e
  · simp only [Value.slice.injEq] at e
    omega
theorem own_less {w : World} {base g n c : Nat} {E : TypeId} {xs : List Value} {x : Value} (h : w.ownsRow base E 1 (.slice (some ⟨g, 0, none⟩) (n + 1) c) (n + 1) (xs ++ [x])) (hn : xs.length = n) : w.ownsRow base E 1 (.slice (some ⟨g, 0, none⟩) n c) n xs := by
  rcases h.2 with ⟨e, _⟩ | ⟨g', c', cur, e, hb, hg, hc, hm, hs, ht⟩
  · cases e
  · simp only [Value.slice.injEq, Option.some.injEq, Addr.mk.injEq, and_true, true_and] at e
    obtain ⟨rfl, rfl⟩ := e
    refine ⟨by omega, .inr ⟨g, c, cur, rfl, hb, hg, by omega, hm, hs, ?_⟩⟩
    have := congrArg (List.take n) ht
    rw [List.take_take, Nat.mul_one, Nat.min_eq_left (by omega)] at this
    rw [Nat.mul_one, this, ← hn]
    simp
/-- The last element let go. -/
theorem own_pop {w : World} {base g n c : Nat} {E : TypeId} {xs : List Value} {x : Value} (h : w.ownsRow base E 1 (.slice (some ⟨g, 0, none⟩) (n + 1) c) (n + 1) (xs ++ [x])) (hn : xs.length = n) (u : Value) :
    (w.setCell ⟨g, n, none⟩ u).ownsRow base E 1 (.slice (some ⟨g, 0, none⟩) n c) n xs := by
  have h' := (h.stored n u).1
  rcases h'.2 with ⟨e, _⟩ | ⟨g', c', cur, e, hb, hg, hc, hm, hs, ht⟩
  · cases e
  · simp only [Value.slice.injEq, Option.some.injEq, Addr.mk.injEq, and_true, true_and] at e
    obtain ⟨rfl, rfl⟩ := e
    refine ⟨by omega, .inr ⟨g, c, cur, rfl, hb, hg, by omega, hm, hs, ?_⟩⟩
    have := congrArg (List.take n) ht
    rw [List.take_take, Nat.mul_one, Nat.min_eq_left (by omega)] at this
    rw [Nat.mul_one, this, ← hn]
    simp
theorem pop_done {w : World} {T E : TypeId} {base b g n c cap md : Nat} {xs : List Value} {z v : Value} (hb : base ≤ b) (hne : g ≠ b)
    (hx : Bx (w.setCell ⟨g, n, none⟩ z) b T [v, .int .i64 (cap : Int), .int .i64 (md : Int)]) (ho : (w.setCell ⟨g, n, none⟩ z).ownsRow base E 1 (.slice (some ⟨g, 0, none⟩) n c) n xs) (hn : xs.length = n) :
    Stk ((w.setCell ⟨g, n, none⟩ z).setCell ⟨b, 0, none⟩ (.slice (some ⟨g, 0, none⟩) n c)) T E base b (some g) cap md xs ∧ Mv b (some g) w ((w.setCell ⟨g, n, none⟩ z).setCell ⟨b, 0, none⟩ (.slice (some ⟨g, 0, none⟩) n c)) := by
  subst hn
  refine ⟨⟨hb, (by simpa using hne), .slice (some ⟨g, 0, none⟩) xs.length c, rfl, hx.put 0 _, own_of ho fun k hk _ => ?_⟩, ((Mv.refl b _ w).setOwn rfl _ _).set 0 _⟩
  obtain rfl : g = k := by simpa [Value.ownBlock] using hk
  exact Deep.blk_setCell_other _ _ _ g hne
theorem own_block {w : World} {g base m : Nat} {E : TypeId} {xs : List Value} (hm : xs.length = m) (hb : base ≤ g) (h : w.heap[g]? = some (.cells xs.toArray E (0, 0))) (hl : m ≤ 1000000) : w.ownsRow base E 1 (.slice (some ⟨g, 0, none⟩) m m) m xs := by
  subst hm
  exact ⟨by simp, .inr ⟨g, xs.length, xs.toArray, rfl, hb, h, Nat.le_refl _, by unfold maxLen; omega, by simp, by simp [List.take_of_length_le]⟩⟩
theorem splice_whole (m : Nat) (z : Value) (xs : List Value) (h : xs.length = m) : splice (List.replicate m z) 0 xs = xs := by
  unfold splice; simp [h]
end
section
open Go.RowKit

theorem infob : (Try.prog.info? 4).map (fun i => (i.zero, i.size, i.bytes)) = some (some (.bool false), 1, 1) := by kernel_rfl
set_option maxHeartbeats 400000 in
theorem new_ok_b (cap : Nat) (h1 : 1 ≤ cap) (h2 : cap ≤ 4096) (w : World) : Calls Try.prog 19 #[.int .i64 (cap : Int)] w (NewPost 82 4 cap w) := by
  have H := Lib.hid (stk_new w 82 4 cap)
  have t1 : ¬ (cap : Int) < 1 := by omega
  have t2 : ¬ (4096 : Int) < (cap : Int) := by omega
  have t3 : decide ((cap : Int) < 1) = false := decide_eq_false t1
  have t4 : decide ((4096 : Int) < (cap : Int)) = false := decide_eq_false t2
  go_enter Try.func19, Try.ntmps19
  go_wp2
  go_ret2
  exact ⟨rfl, H.out, Nx.one _ _, by simp⟩
set_option maxHeartbeats 400000 in
theorem new_no_b (n : Int) (h : n < 1 ∨ 4096 < n) (w : World) : Calls Try.prog 19 #[.int .i64 n] w fun e w' => e = .returned (.tuple #[.pointer none, .int .i64 3]) ∧ w = w' := by
  by_cases h1 : n < 1
  · clear h
    go_enter Try.func19, Try.ntmps19
    go_wp2
    go_ret2
    exact ⟨rfl, rfl⟩
  · have h2 : 4096 < n := by omega
    clear h
    go_enter Try.func19, Try.ntmps19
    go_wp2
    go_ret2
    exact ⟨rfl, rfl⟩
end
section
open Go.RowKit

set_option maxHeartbeats 800000 in
theorem push_full_b (x : Bool) (base b : Nat) (o : Option Nat) (cap md : Nat) (xs : List Value) (w : World) (h : Stk w 82 4 base b o cap md xs) (hf : cap ≤ xs.length) :
    Calls Try.prog 53 #[.pointer (some ⟨b, 0, none⟩), (.bool x)] w fun e w' => e = .returned (.int .i64 10) ∧ Nx w w' := by
  obtain ⟨_, _, v, _, hb, ho⟩ := h
  obtain ⟨A, c, rfl, _⟩ := own_form ho
  have c0 := hb.cell 0 rfl
  have c1 := hb.cell 1 rfl
  have t1 : (cap : Int) ≤ (xs.length : Int) := by omega
  clear hb ho hf
  generalize xs.length = n at *
  go_enter Try.func53, Try.ntmps53
  go_wp2
  go_quiet (fail)
  go_wp2
  go_ret
  exact ⟨rfl, (by repeat (first | exact Nx.refl _ | assumption | refine Nx.drewN ?_ _ | refine Nx.drew ?_ | refine Nx.alloc ?_ _ | refine Nx.set ?_ (by first | exact Nat.le_refl _ | (simp; done) | (simp; omega)) _))⟩

set_option maxHeartbeats 1600000 in
set_option maxRecDepth 100000 in
theorem push_ok_b (x : Bool) (base b : Nat) (o : Option Nat) (cap md : Nat) (xs : List Value) (w : World) (h : Stk w 82 4 base b o cap md xs) (hf : xs.length < cap) (hc : cap ≤ 4096) :
    Calls Try.prog 53 #[.pointer (some ⟨b, 0, none⟩), (.bool x)] w (PushPost 82 4 base b o cap (max md (xs.length + 1)) (xs ++ [(.bool x)]) w) := by
  obtain ⟨hbase, hob, v, hv, hb, ho⟩ := h
  have hlt := hb.lt
  obtain ⟨A, c, rfl, _⟩ := own_form ho
  obtain ⟨i0, hi, hz0, hz1, hz2⟩ := info_parts infob
  have c0 := hb.cell 0 rfl
  have c1 := hb.cell 1 rfl
  have t1 : ¬ (cap : Int) ≤ (xs.length : Int) := by omega
  have HB := Lib.hid hb
  have HO := Lib.hid ho
  have HV := Lib.hid hv
  have HOB := Lib.hid hob
  clear hb ho hv hob
  obtain ⟨n, hn⟩ : ∃ n, xs.length = n := ⟨_, rfl⟩
  have HN := Lib.hid hn
  rw [hn] at t1 hf ⊢
  have HO' := Lib.hid (show w.ownsRow base 4 1 (.slice A n c) n xs by rw [← hn]; exact HO.out)
  rw [show (Value.slice A xs.length c) = .slice A n c by rw [hn]] at c0
  have HB' := Lib.hid (show Bx w b 82 [.slice A n c, .int .i64 (cap : Int), .int .i64 (md : Int)] by rw [← hn]; exact HB.out)
  have HV' := Lib.hid (show (Value.slice A n c).ownBlock = o by rw [← HV.out]; cases A <;> rfl)
  clear hn HO HB HV
  go_enter Try.func53, Try.ntmps53
  go_wp2
  go_quiet (fail)
  have K1 := Lib.hid ((Nx.refl w).drewN nq)
  have z1 := Lib.hid (show (w.drewN nq).heap.size = w.heap.size from rfl)
  have d0 : (w.drewN nq).cell? ⟨b, 0, none⟩ = some (.slice A n c) := c0
  clear c0 c1
  generalize w.drewN nq = w1 at *
  have K2 := Lib.hid (K1.out.alloc (.cells #[(.bool x)] 4))
  have hlt1 : b < w1.heap.size := by rw [z1.out]; exact hlt
  have HLT := Lib.hid hlt
  clear hlt
  have HA := Lib.hid (own_of (w' := w1.alloc (.cells #[(.bool x)] 4)) HO'.out (fun g _ hl => K2.out.block g hl))
  have HX := Lib.hid (HB'.out.nx K2.out)
  have HW := Lib.hid (new_one w1 ((.bool x)) 4)
  have z2 := Lib.hid (show (w1.alloc (.cells #[(.bool x)] 4)).heap.size = w.heap.size + 1 by simp [z1.out])
  have HL := Lib.hid (show base ≤ (w1.alloc (.cells #[(.bool x)] 4)).heap.size by rw [z2.out]; have := HLT.out; omega)
  go_wp2_with (first | (at_builtin
                        refine wpList_append_lies _ rfl (.tmp 21) (.tmp 23) 22 rfl base 4 i0 (.bool false) 1 1 Try.underlying22 hi hz0 hz1 hz2 rfl (by decide) (.slice A n c) n xs rfl HA.out ⟨w1.heap.size, 0, none⟩ 1 1 [(.bool x)] rfl rfl HW.out (by simp [Value.oneCell']) (by decide) (by unfold maxLen; omega) (by omega) HL.out (w.heap.size + 1) z2.out ?_
                        intro g cc w2 ho2 hg2 hl2 hlt2
                        have HG := Lib.hid (grown_nx_l K2.out hg2)
                        have HO2 := Lib.hid ho2
                        have HX2 := Lib.hid (bx_of HX.out (hg2.block b (by rw [z2.out]; have := HLT.out; omega) (by rw [HV'.out]; exact fun e => HOB.out e.symm)))
                        have HL2 := Lib.hid hl2
                        have d0 := HX2.out.cell 0 rfl
                        have f0 := HX2.out.frozen 0
                        have e0 := (HX2.out.put 0 (.slice (some ⟨g, 0, none⟩) (n + 1) cc)).cell 0 rfl
                        have e2 := (HX2.out.put 0 (.slice (some ⟨g, 0, none⟩) (n + 1) cc)).cell 2 rfl
                        have f2 := (HX2.out.put 0 (.slice (some ⟨g, 0, none⟩) (n + 1) cc)).frozen 2
                        clear ho2 hg2 hl2 hlt2))
  go_region
  all_goals go_wp2
  · have hm : (md : Int) < (n : Int) + 1 := by assumption
    have hm' : max md (n + 1) = n + 1 := by omega
    go_ret
    exact ⟨rfl, push_done hbase HLT.out HOB.out HV'.out HX2.out HO2.out HG.out HL2.out (by rw [hm']; rfl)⟩
  · have hm : (n : Int) + 1 ≤ (md : Int) := by assumption
    have hm' : max md (n + 1) = md := by omega
    go_ret
    exact ⟨rfl, push_done hbase HLT.out HOB.out HV'.out HX2.out HO2.out HG.out HL2.out (by rw [hm'])⟩
end
section
open Go.RowKit

set_option maxHeartbeats 400000 in
theorem pop_none_b (base b : Nat) (o : Option Nat) (cap md : Nat) (w : World) (h : Stk w 82 4 base b o cap md []) :
    Calls Try.prog 54 #[.pointer (some ⟨b, 0, none⟩)] w fun e w' => e = .returned (.tuple #[.bool false, .int .i64 18]) ∧ w = w' := by
  obtain ⟨_, _, v, _, hb, ho⟩ := h
  obtain ⟨A, c, rfl, _⟩ := own_form ho
  have c0 := hb.cell 0 rfl
  clear hb ho
  go_enter Try.func54, Try.ntmps54
  go_wp2
  go_ret2
  exact ⟨rfl, rfl⟩
set_option maxHeartbeats 1600000 in
set_option maxRecDepth 100000 in
theorem pop_ok_b (base b : Nat) (o : Option Nat) (cap md : Nat) (xs : List Value) (x : Value) (w : World) (h : Stk w 82 4 base b o cap md (xs ++ [x])) (hl : xs.length ≤ 4096) :
    Calls Try.prog 54 #[.pointer (some ⟨b, 0, none⟩)] w (PopPost 82 4 base b o cap md xs x w) := by
  obtain ⟨hbase, hob, v, hv, hb, ho⟩ := h
  rw [List.length_append, List.length_singleton] at ho
  obtain ⟨g, c, rfl, hbg, hgs⟩ := ho.form (by omega)
  obtain ⟨n, hn⟩ : ∃ n, xs.length = n := ⟨_, rfl⟩
  rw [hn] at hl ho hb
  have hcg := ho.cellAt n (by omega)
  rw [List.getElem?_append_right (by omega), hn, Nat.sub_self] at hcg
  have hfg := ho.frozenAt n
  have hov : o = some g := by rw [← hv]; rfl
  subst hov
  have hne : g ≠ b := by intro e; exact hob (by rw [e])
  have HST := Lib.hid (own_pop ho hn (.bool false))
  have HX := Lib.hid (show Bx (w.setCell ⟨g, n, none⟩ (.bool false)) b 82 [.slice (some ⟨g, 0, none⟩) (n + 1) c, .int .i64 (cap : Int), .int .i64 (md : Int)] from hb.far (Ne.symm hne) _)
  have c0 := hb.cell 0 rfl
  have e0 := HX.out.cell 0 rfl
  have f0 := HX.out.frozen 0
  have hcc : n + 1 ≤ c := own_cap ho
  have HV := Lib.hid hv
  have HN := Lib.hid hn
  have HF := Lib.hid (pop_done (md := md) (cap := cap) (T := 82) (E := 4) hbase hne HX.out HST.out HN.out)
  clear hb ho hv hob hn
  go_enter Try.func54, Try.ntmps54
  go_wp2
  go_ret2
  exact ⟨rfl, HF.out⟩
end
section
open Go.RowKit

section
variable {P : Program} {ops : Array Oper} {Q : Exit → Act → World → Prop}
/-- Operation st waits for each other one. -/
def lastB (ops : Array Oper) (st : Nat) : Bool := (List.range ops.size).all fun i => i == st || ((ops[st]?).map fun o => o.after.any fun e => Region.binds .any e && e.on == i).getD false
theorem last_spec {st : Nat} (h : lastB ops st = true) {i : Nat} (hi : i < ops.size) (hne : i ≠ st) {o : Oper} (ho : ops[st]? = some o) : ∃ e ∈ o.after, Region.binds .any e = true ∧ e.on = i := by
  have h1 := (List.all_eq_true.1 h) i (by simpa using hi)
  rw [ho] at h1
  simp only [Option.map_some, Option.getD_some, Bool.or_eq_true, beq_iff_eq] at h1
  rcases h1 with h1 | h1
  · exact absurd h1 hne
  · rw [Array.any_eq_true'] at h1
    obtain ⟨e, he, h2⟩ := h1
    simp only [Bool.and_eq_true, beq_iff_eq] at h2
    exact ⟨e, he, h2⟩
theorem wpAny_all {fuel : Nat} {listed : Array Bool} {a : Act} {w : World} (hs : listed.size = ops.size) (h : ∀ i, i < ops.size → listed.getD i false = true) (hq : Q .normal a w) : wpAny P .any ops Q fuel listed a w := by
  have hno : ∀ i, ¬ i ∈ Region.ready .any ops listed := fun i hi => by
    obtain ⟨h1, h2, _⟩ := ready_spec hi
    rw [getD_flip (by omega), h i h1] at h2
    cases h2
  cases fuel with
  | zero => exact ⟨List.eq_nil_iff_forall_not_mem.2 hno, hq⟩
  | succ n => exact ⟨fun _ => hq, fun i hi => absurd hi (hno i)⟩
theorem wpAny_last (hb : backB ops = true) (st : Nat) (hst : st < ops.size) (hl : lastB ops st = true) (φ : Nat → Act → World → Prop) (J : Act → World → Prop)
    (step : ∀ i o, i ≠ st → ops[i]? = some o → ∀ a w K, J a w → (∀ e ∈ o.after, Region.binds .any e = true → φ e.on a w) →
      (∀ a' w', J a' w' → φ i a' w' → (∀ j, j < ops.size → j ≠ i → φ j a w → φ j a' w') → K a' w') → o.wp P a w K Q)
    (stepL : ∀ o, ops[st]? = some o → ∀ a w K, J a w → (∀ j, j < ops.size → j ≠ st → φ j a w) → (∀ a' w', Q .normal a' w' → K a' w') → o.wp P a w K Q) :
    ∀ (fuel : Nat) (listed : Array Bool) (a : Act) (w : World), listed.size = ops.size → lft listed ≤ fuel → listed.getD st false = false → J a w → (∀ j, j < ops.size → listed.getD j false = true → φ j a w) → wpAny P .any ops Q fuel listed a w := by
  intro fuel
  induction fuel with
  | zero =>
    intro listed a w hs hf hn
    have := lft_zero (listed := listed) (by omega) (by omega) (i := st)
    rw [hn] at this
    cases this
  | succ fuel ih =>
    intro listed a w hs hf hn hJ hφ
    refine ⟨fun h0 => ?_, fun i hi => ?_⟩
    · have := all_listed hb hs h0 st hst
      rw [hn] at this
      cases this
    obtain ⟨h1, h2, h3⟩ := ready_spec hi
    obtain ⟨o, ho⟩ : ∃ o, ops[i]? = some o := ⟨ops[i], Array.getElem?_eq_getElem h1⟩
    unfold wpOp
    rw [ho]
    simp only []
    rw [if_pos (by simp [Region.wanted, (back_spec hb ho).1])]
    refine Or.inl ?_
    by_cases e : i = st
    · subst e
      have hall : ∀ j, j < ops.size → j ≠ i → listed.getD j false = true := fun j hj hne => by
        obtain ⟨e, he, hbd, rfl⟩ := last_spec hl hj hne ho
        exact h3 o ho e he hbd
      refine stepL o ho a w _ hJ (fun j hj hne => hφ j hj (hall j hj hne)) (fun a' w' hq => wpAny_all (by simpa using hs) (fun j hj => ?_) hq)
      by_cases hji : j = i
      · subst hji; simp [Array.getD_eq_getD_getElem?, hs, hj]
      · exact getD_set_keep (hall j hj hji)
    · refine step i o e ho a w _ hJ (fun e he hbd => ?_) (fun a' w' hJ' hφ' hk => ?_)
      · exact hφ e.on (by have := (back_spec hb ho).2 e he; omega) (h3 o ho e he hbd)
      · refine ih _ a' w' (by simpa using hs) ?_ ?_ hJ' (fun j hj hlj => ?_)
        · have := lft_set (by omega) h2
          omega
        · rw [getD_set_ne e]; exact hn
        · by_cases hji : j = i
          · subst hji; exact hφ'
          · rw [getD_set_ne (fun e => hji e.symm)] at hlj
            exact hk j hj hji (hφ j hj hlj)

theorem wp_region_last {id : Nat} {a : Act} {w : World} (hm : P.follows .mixedOrders = true) (hb : backB ops = true) (hA : apartB ops a.tmps.size = true) (st : Nat) (hst : st < ops.size) (hl : lastB ops st = true)
    (psi : Nat → Value → World → Prop) (k1 : ∀ j v w w', Nx w w' → psi j v w → psi j v w')
    (step : ∀ i o, i ≠ st → ops[i]? = some o → ∀ a1 w1 K, Fr a ops a1 → Nx w w1 → (∀ e ∈ o.after, Region.binds .any e = true → psi e.on (view ops a1 e.on) w1) →
      (∀ v w2, Nx w1 w2 → psi i v w2 → (o.dst = none → v = undef) → K (a1.put o.dst v) w2) → o.wp P a1 w1 K Q)
    (stepL : ∀ o, ops[st]? = some o → ∀ a1 w1 K, Fr a ops a1 → Nx w w1 → (∀ j, j < ops.size → j ≠ st → psi j (view ops a1 j) w1) → (∀ a' w', Q .normal a' w' → K a' w') → o.wp P a1 w1 K Q) :
    (Code.region id ops true).wp P Q a w := by
  have hw : Nx w { w with drawn := w.drawn + 1 } := (Nx.refl w).drew
  refine wp_region_any hm (wpAny_last hb st hst hl (fun j a1 w1 => psi j (view ops a1 j) w1) (fun a1 w1 => Fr a ops a1 ∧ Nx w w1)
    (fun i o hi ho a1 w1 K hF hE hK => ?_) (fun o ho a1 w1 K hF h hK => stepL o ho a1 w1 K hF.1 hF.2 h hK) ops.size (Array.replicate ops.size false) a _ (by simp) ?_ ?_ ⟨⟨rfl, rfl, fun _ _ => rfl⟩, hw⟩ ?_)
  · refine step i o hi ho a1 w1 K hF.1 hF.2 hE (fun v w2 h1 h3 h4 => hK _ _ ⟨hF.1.put ho v, hF.2.trans h1⟩ ?_ (fun j hj hji hp => ?_))
    · show psi i (view ops (a1.put o.dst v) i) w2
      rw [view_put hA hF.1.2.1 ho v h4]
      unfold upd
      rw [if_pos rfl]
      exact h3
    · show psi j (view ops (a1.put o.dst v) j) w2
      rw [view_put hA hF.1.2.1 ho v h4]
      unfold upd
      rw [if_neg hji]
      exact k1 j _ _ _ h1 hp
  · unfold lft
    exact Nat.le_trans (List.countP_le_length) (by simp)
  · simp [Array.getD, hst]
  · intro j hj hlj
    simp [Array.getD, hj] at hlj
end
end
section
open Go.RowKit

section
variable {P : Program} {ops : Array Oper} {Q : Exit → Act → World → Prop}
theorem wpAny_two (hb : backB ops = true) (see : Nat → List Nat) (hsee : seeB ops see = true) (st : Nat) (φ φ2 : Nat → Act → World → Prop) (J J2 : Act → World → Prop) (hst : st < ops.size)
    (stepA : ∀ i o, i ≠ st → st ∉ see i → ops[i]? = some o → ∀ a w K, J a w → (∀ e ∈ o.after, Region.binds .any e = true → φ e.on a w) →
      (∀ a' w', J a' w' → φ i a' w' → (∀ j, j < ops.size → j ≠ i → φ j a w → φ j a' w') → K a' w') → o.wp P a w K Q)
    (stepS : ∀ o, ops[st]? = some o → ∀ a w K, J a w → (∀ e ∈ o.after, Region.binds .any e = true → φ e.on a w) →
      (∀ a' w', J2 a' w' → φ2 st a' w' → (∀ j, j < ops.size → j ≠ st → φ j a w → φ2 j a' w') → K a' w') → o.wp P a w K Q)
    (stepB : ∀ i o, i ≠ st → i ∉ see st → ops[i]? = some o → ∀ a w K, J2 a w → (∀ e ∈ o.after, Region.binds .any e = true → φ2 e.on a w) →
      (∀ a' w', J2 a' w' → φ2 i a' w' → (∀ j, j < ops.size → j ≠ i → φ2 j a w → φ2 j a' w') → K a' w') → o.wp P a w K Q)
    (fin : ∀ a w, J2 a w → (∀ j, j < ops.size → φ2 j a w) → Q .normal a w) :
    ∀ (fuel : Nat) (listed : Array Bool) (a : Act) (w : World), listed.size = ops.size → lft listed ≤ fuel →
      ((listed.getD st false = false ∧ J a w ∧ ∀ j, j < ops.size → listed.getD j false = true → φ j a w) ∨ (listed.getD st false = true ∧ J2 a w ∧ ∀ j, j < ops.size → listed.getD j false = true → φ2 j a w)) →
      (∀ j, listed.getD j false = true → ∀ k ∈ see j, listed.getD k false = true) → wpAny P .any ops Q fuel listed a w := by
  intro fuel
  induction fuel with
  | zero =>
    intro listed a w hs hf hI hC
    have hall : ∀ j, j < ops.size → listed.getD j false = true := fun j hj => lft_zero (by omega) (by omega)
    rcases hI with ⟨h, _⟩ | ⟨_, hJ, hφ⟩
    · rw [hall st hst] at h; cases h
    refine ⟨?_, fin a w hJ (fun j hj => hφ j hj (hall j hj))⟩
    rw [List.eq_nil_iff_forall_not_mem]
    intro i hi
    obtain ⟨h1, h2, _⟩ := ready_spec hi
    rw [getD_flip (by omega), hall i h1] at h2
    cases h2
  | succ fuel ih =>
    intro listed a w hs hf hI hC
    refine ⟨fun h0 => ?_, fun i hi => ?_⟩
    · have hall := all_listed hb hs h0
      rcases hI with ⟨h, _⟩ | ⟨_, hJ, hφ⟩
      · rw [hall st hst] at h; cases h
      · exact fin a w hJ (fun j hj => hφ j hj (hall j hj))
    obtain ⟨h1, h2, h3⟩ := ready_spec hi
    obtain ⟨o, ho⟩ : ∃ o, ops[i]? = some o := ⟨ops[i], Array.getElem?_eq_getElem h1⟩
    have hni : listed.getD i false = false := by rw [← getD_flip (by omega)]; exact h2
    have hlt : lft (listed.setIfInBounds i true) ≤ fuel := by
      have := lft_set (by omega) h2
      omega
    have hC' : ∀ j, (listed.setIfInBounds i true).getD j false = true → ∀ k ∈ see j, (listed.setIfInBounds i true).getD k false = true := fun j hl k hkj => by
      by_cases hji : j = i
      · subst hji
        obtain ⟨e, he, hbd, hor⟩ := see_spec hsee ho hkj
        have hle := h3 o ho e he hbd
        refine getD_set_keep ?_
        rcases hor with rfl | hm
        · exact hle
        · exact hC e.on hle k hm
      · rw [getD_set_ne (fun e => hji e.symm)] at hl
        exact getD_set_keep (hC j hl k hkj)
    unfold wpOp
    rw [ho]
    simp only []
    rw [if_pos (by simp [Region.wanted, (back_spec hb ho).1])]
    refine Or.inl ?_
    rcases hI with ⟨hn, hJ, hφ⟩ | ⟨hy, hJ, hφ⟩
    · have hdep : ∀ e ∈ o.after, Region.binds .any e = true → φ e.on a w := fun e he hbd => hφ e.on (by have := (back_spec hb ho).2 e he; omega) (h3 o ho e he hbd)
      by_cases e : i = st
      · subst e
        refine stepS o ho a w _ hJ hdep (fun a' w' hJ' hφ' hk => ih _ a' w' (by simpa using hs) hlt (.inr ⟨by simp [Array.getD_eq_getD_getElem?, hs, h1], hJ', fun j hj hl => ?_⟩) hC')
        by_cases hji : j = i
        · subst hji; exact hφ'
        · rw [getD_set_ne (fun e => hji e.symm)] at hl
          exact hk j hj hji (hφ j hj hl)
      · have hns : st ∉ see i := fun hm => by
          obtain ⟨e', he, hbd, hor⟩ := see_spec hsee ho hm
          have hle := h3 o ho e' he hbd
          have : listed.getD st false = true := by
            rcases hor with rfl | hm'
            · exact hle
            · exact hC e'.on hle st hm'
          rw [hn] at this; cases this
        refine stepA i o e hns ho a w _ hJ hdep (fun a' w' hJ' hφ' hk => ih _ a' w' (by simpa using hs) hlt (.inl ⟨by rw [getD_set_ne e]; exact hn, hJ', fun j hj hl => ?_⟩) hC')
        by_cases hji : j = i
        · subst hji; exact hφ'
        · rw [getD_set_ne (fun e => hji e.symm)] at hl
          exact hk j hj hji (hφ j hj hl)
    · have hdep : ∀ e ∈ o.after, Region.binds .any e = true → φ2 e.on a w := fun e he hbd => hφ e.on (by have := (back_spec hb ho).2 e he; omega) (h3 o ho e he hbd)
      have e : i ≠ st := fun e => by subst e; rw [hni] at hy; cases hy
      refine stepB i o e (fun hm => by rw [hC st hy i hm] at hni; cases hni) ho a w _ hJ hdep (fun a' w' hJ' hφ' hk => ih _ a' w' (by simpa using hs) hlt (.inr ⟨by rw [getD_set_ne e]; exact hy, hJ', fun j hj hl => ?_⟩) hC')
      by_cases hji : j = i
      · subst hji; exact hφ'
      · rw [getD_set_ne (fun e => hji e.symm)] at hl
        exact hk j hj hji (hφ j hj hl)

theorem wp_region_two {id : Nat} {a : Act} {w : World} (hm : P.follows .mixedOrders = true) (hb : backB ops = true) (hA : apartB ops a.tmps.size = true) (see : Nat → List Nat) (hsee : seeB ops see = true) (st : Nat) (hst : st < ops.size)
    (psi psi2 : Nat → Value → World → Prop) (J2 : World → Prop) (k1 : ∀ j v w w', Nx w w' → psi j v w → psi j v w')
    (stepA : ∀ i o, i ≠ st → st ∉ see i → ops[i]? = some o → ∀ a1 w1 K, Fr a ops a1 → Nx w w1 → (∀ e ∈ o.after, Region.binds .any e = true → psi e.on (view ops a1 e.on) w1) →
      (∀ v w2, Nx w1 w2 → psi i v w2 → (o.dst = none → v = undef) → K (a1.put o.dst v) w2) → o.wp P a1 w1 K Q)
    (stepS : ∀ o, ops[st]? = some o → ∀ a1 w1 K, Fr a ops a1 → Nx w w1 → (∀ e ∈ o.after, Region.binds .any e = true → psi e.on (view ops a1 e.on) w1) →
      (∀ v w2, J2 w2 → psi2 st v w2 → (∀ j v', psi j v' w1 → psi2 j v' w2) → (o.dst = none → v = undef) → K (a1.put o.dst v) w2) → o.wp P a1 w1 K Q)
    (stepB : ∀ i o, i ≠ st → i ∉ see st → ops[i]? = some o → ∀ a1 w1 K, Fr a ops a1 → J2 w1 → (∀ e ∈ o.after, Region.binds .any e = true → psi2 e.on (view ops a1 e.on) w1) →
      (∀ v w2, J2 w2 → psi2 i v w2 → (∀ j v', j ≠ i → psi2 j v' w1 → psi2 j v' w2) → (o.dst = none → v = undef) → K (a1.put o.dst v) w2) → o.wp P a1 w1 K Q)
    (fin : ∀ a1 w1, Fr a ops a1 → J2 w1 → (∀ j, j < ops.size → psi2 j (view ops a1 j) w1) → Q .normal a1 w1) : (Code.region id ops true).wp P Q a w := by
  have hw : Nx w { w with drawn := w.drawn + 1 } := (Nx.refl w).drew
  have vi : ∀ {a1 : Act} {i : Nat} {o : Oper} {v : Value}, Fr a ops a1 → ops[i]? = some o → (o.dst = none → v = undef) → view ops (a1.put o.dst v) i = v := fun hF ho h4 => by
    rw [view_put hA hF.2.1 ho _ h4]; exact if_pos rfl
  have vj : ∀ {a1 : Act} {i j : Nat} {o : Oper} {v : Value}, Fr a ops a1 → ops[i]? = some o → (o.dst = none → v = undef) → j ≠ i → view ops (a1.put o.dst v) j = view ops a1 j := fun hF ho h4 hne => by
    rw [view_put hA hF.2.1 ho _ h4]; exact if_neg hne
  refine wp_region_any hm (wpAny_two hb see hsee st (fun j a1 w1 => psi j (view ops a1 j) w1) (fun j a1 w1 => psi2 j (view ops a1 j) w1) (fun a1 w1 => Fr a ops a1 ∧ Nx w w1) (fun a1 w1 => Fr a ops a1 ∧ J2 w1) hst
    (fun i o hi hs ho a1 w1 K hF hE hK => ?_) (fun o ho a1 w1 K hF hE hK => ?_) (fun i o hi hs ho a1 w1 K hF hE hK => ?_) (fun a1 w1 hF h => fin a1 w1 hF.1 hF.2 h)
    ops.size (Array.replicate ops.size false) a _ (by simp) ?_ (.inl ⟨?_, ⟨⟨rfl, rfl, fun _ _ => rfl⟩, hw⟩, ?_⟩) ?_)
  · refine stepA i o hi hs ho a1 w1 K hF.1 hF.2 hE (fun v w2 h1 h3 h4 => hK _ _ ⟨hF.1.put ho v, hF.2.trans h1⟩ ?_ (fun j hj hji hp => ?_))
    · show psi i (view ops (a1.put o.dst v) i) w2
      rw [vi hF.1 ho h4]; exact h3
    · show psi j (view ops (a1.put o.dst v) j) w2
      rw [vj hF.1 ho h4 hji]; exact k1 j _ _ _ h1 hp
  · refine stepS o ho a1 w1 K hF.1 hF.2 hE (fun v w2 h1 h2 h3 h4 => hK _ _ ⟨hF.1.put ho v, h1⟩ ?_ (fun j hj hji hp => ?_))
    · show psi2 st (view ops (a1.put o.dst v) st) w2
      rw [vi hF.1 ho h4]; exact h2
    · show psi2 j (view ops (a1.put o.dst v) j) w2
      rw [vj hF.1 ho h4 hji]; exact h3 j _ hp
  · refine stepB i o hi hs ho a1 w1 K hF.1 hF.2 hE (fun v w2 h1 h2 h3 h4 => hK _ _ ⟨hF.1.put ho v, h1⟩ ?_ (fun j hj hji hp => ?_))
    · show psi2 i (view ops (a1.put o.dst v) i) w2
      rw [vi hF.1 ho h4]; exact h2
    · show psi2 j (view ops (a1.put o.dst v) j) w2
      rw [vj hF.1 ho h4 hji]; exact h3 j _ hji hp
  · unfold lft
    exact Nat.le_trans (List.countP_le_length) (by simp)
  · simp [Array.getD, hst]
  · intro j hj hlj
    simp [Array.getD, hj] at hlj
  · intro j hl k hk
    by_cases hj : j < ops.size
    · simp [Array.getD, hj] at hl
    · simp [Array.getD, hj] at hl
end
end
section
open Go.RowKit

section
variable {P : Program} {ops : Array Oper} {Q : Exit → Act → World → Prop}
def putN (ops : Array Oper) (v : Nat → Value) (a : Act) : Nat → Act
  | 0 => a
  | n + 1 => (putN ops v a n).put ((ops[n]?).bind (·.dst)) (v n)
theorem putN_succ (v : Nat → Value) (a : Act) (n : Nat) : putN ops v a (n + 1) = (putN ops v a n).put ((ops[n]?).bind (·.dst)) (v n) := rfl
theorem putN_rest (v : Nat → Value) (a : Act) (n : Nat) : (putN ops v a n).defers = a.defers ∧ (putN ops v a n).tmps.size = a.tmps.size := by
  induction n with
  | zero => exact ⟨rfl, rfl⟩
  | succ n ih =>
    unfold putN
    cases (ops[n]?).bind (·.dst) with
    | none => exact ih
    | some d => exact ⟨ih.1, by simpa [Act.put] using ih.2⟩
theorem putN_off (v : Nat → Value) (a : Act) (k : Nat) (n : Nat) (h : ∀ i, i < n → (ops[i]?).bind (·.dst) ≠ some k) : (putN ops v a n).tmps.getD k undef = a.tmps.getD k undef := by
  induction n with
  | zero => rfl
  | succ n ih =>
    have hn := h n (by omega)
    rw [← ih (fun i hi => h i (by omega))]
    rw [putN_succ]
    cases hd : (ops[n]?).bind (·.dst) with
    | none => rfl
    | some d =>
      have hne : d ≠ k := fun e => hn (by rw [hd, e])
      simp [Act.put, Array.getD_eq_getD_getElem?, hne]
theorem putN_on (v : Nat → Value) (a : Act) {k i : Nat} (hk : k < a.tmps.size) (hd : (ops[i]?).bind (·.dst) = some k) (hA : ∀ j, j ≠ i → (ops[j]?).bind (·.dst) ≠ some k) (n : Nat) (hi : i < n) : (putN ops v a n).tmps.getD k undef = v i := by
  induction n with
  | zero => omega
  | succ n ih =>
    by_cases e : n = i
    · subst e
      rw [putN_succ]
      rw [hd]
      have := (putN_rest (ops := ops) v a n).2
      simp [Act.put, Array.getD_eq_getD_getElem?, this, hk]
    · rw [← ih (by omega)]
      have hn := hA n e
      rw [putN_succ]
      cases hd' : (ops[n]?).bind (·.dst) with
      | none => rfl
      | some d =>
        have hne : d ≠ k := fun e => hn (by rw [hd', e])
        simp [Act.put, Array.getD_eq_getD_getElem?, hne]
theorem Fr.eq {a a1 : Act} (hA : apartB ops a.tmps.size = true) (hF : Fr a ops a1) : a1 = putN ops (view ops a1) a ops.size := by
  have hr := putN_rest (ops := ops) (view ops a1) a ops.size
  have ht : a1.tmps = (putN ops (view ops a1) a ops.size).tmps := by
    refine Array.ext (by rw [hF.2.1, hr.2]) (fun k h1 h2 => ?_)
    have g1 : a1.tmps.getD k undef = a1.tmps[k] := by simp [Array.getD_eq_getD_getElem?, h1]
    have g2 : (putN ops (view ops a1) a ops.size).tmps.getD k undef = (putN ops (view ops a1) a ops.size).tmps[k] := by simp [Array.getD_eq_getD_getElem?, h2]
    rw [← g1, ← g2]
    by_cases hk : ∃ i, i < ops.size ∧ (ops[i]?).bind (·.dst) = some k
    · obtain ⟨i, hi, hd⟩ := hk
      obtain ⟨o, ho⟩ : ∃ o, ops[i]? = some o := ⟨ops[i], Array.getElem?_eq_getElem hi⟩
      have hod : o.dst = some k := by rw [ho, Option.bind_some] at hd; exact hd
      have hsp := apart_spec hA ho hod
      rw [putN_on (view ops a1) a hsp.1 hd (fun j hji => ?_) ops.size hi]
      · show a1.tmps.getD k undef = slotOf ops i a1
        unfold slotOf
        rw [hd]
      · by_cases hj : j < ops.size
        · exact hsp.2 j hj hji
        · rw [Array.getElem?_eq_none (by omega)]; simp
    · have hno : ∀ i, i < ops.size → (ops[i]?).bind (·.dst) ≠ some k := fun i hi e => hk ⟨i, hi, e⟩
      rw [putN_off (view ops a1) a k ops.size hno]
      refine hF.2.2 k ?_
      unfold offB
      rw [Array.all_eq_true']
      intro o hm
      obtain ⟨i, hi, rfl⟩ := Array.mem_iff_getElem.1 hm
      have := hno i hi
      rw [Array.getElem?_eq_getElem hi, Option.bind_some] at this
      simpa using this
  have hd : a1.defers = (putN ops (view ops a1) a ops.size).defers := by rw [hF.1, hr.1]
  cases a1
  cases hp : putN ops (view ops _) a ops.size
  rw [hp] at ht hd
  simp only at ht hd
  rw [ht, hd]
end
end
section
open Go.RowKit

section
variable {P : Program} {ops : Array Oper} {Q : Exit → Act → World → Prop}
theorem wp_region_J {id : Nat} {a : Act} {w : World} (hm : P.follows .mixedOrders = true) (hb : backB ops = true) (hA : apartB ops a.tmps.size = true)
    (J : Act → World → Prop) (psi : Nat → Value → World → Prop) (k1 : ∀ j v w w', Nx w w' → psi j v w → psi j v w') (kJ : ∀ a w w', Nx w w' → J a w → J a w') (hJ : J a w)
    (step : ∀ i o, ops[i]? = some o → ∀ a1 w1 K, Fr a ops a1 → J a1 w1 → Nx w w1 → (∀ e ∈ o.after, Region.binds .any e = true → psi e.on (slotOf ops e.on a1) w1) →
      (∀ v w2, Nx w1 w2 → J (a1.put o.dst v) w2 → psi i v w2 → (o.dst = none → v = undef) → K (a1.put o.dst v) w2) → o.wp P a1 w1 K Q)
    (fin : ∀ a1 w1, Fr a ops a1 → J a1 w1 → Nx w w1 → (∀ j, j < ops.size → psi j (slotOf ops j a1) w1) → Q .normal a1 w1) : (Code.region id ops true).wp P Q a w := by
  have hw : Nx w { w with drawn := w.drawn + 1 } := (Nx.refl w).drew
  refine wp_region_any hm (wpAny_inv hb (fun j a1 w1 => psi j (slotOf ops j a1) w1) (fun a1 w1 => Fr a ops a1 ∧ J a1 w1 ∧ Nx w w1)
    (fun i o ho a1 w1 K hF hE hK => ?_) (fun a1 w1 hF h => fin a1 w1 hF.1 hF.2.1 hF.2.2 h) ops.size (Array.replicate ops.size false) a _ (by simp) ?_ ⟨⟨rfl, rfl, fun _ _ => rfl⟩, kJ _ _ _ hw hJ, hw⟩ ?_)
  · refine step i o ho a1 w1 K hF.1 hF.2.1 hF.2.2 hE (fun v w2 h1 h2 h3 h4 => hK _ _ ⟨hF.1.put ho v, h2, hF.2.2.trans h1⟩ ?_ (fun j hj hji hp => ?_))
    · cases hd : o.dst with
      | none =>
        rw [h4 hd] at h3
        unfold slotOf
        rw [ho, Option.bind_some, hd]
        exact h3
      | some d =>
        rw [← hd, slot_same ho hd (by rw [hF.1.2.1]; exact (apart_spec hA ho hd).1)]
        exact h3
    · rw [slot_other hA ho hj hji]
      exact k1 j _ _ _ h1 hp
  · unfold lft
    exact Nat.le_trans (List.countP_le_length) (by simp)
  · intro j hj hl
    simp [Array.getD, hj] at hl
theorem getD_put (a1 : Act) {d k : Nat} (v : Value) (h : d ≠ k) : (a1.put (some d) v).tmps.getD k undef = a1.tmps.getD k undef := by simp [Act.put, Array.getD_eq_getD_getElem?, h]
theorem getD_put_self (a1 : Act) {d : Nat} (v : Value) (h : d < a1.tmps.size) : (a1.put (some d) v).tmps.getD d undef = v := by simp [Act.put, Array.getD_eq_getD_getElem?, h]
end
end
end Go.Proofs.Ytdpccnpaajhliaa
