/- Maps whose values are all true, as sets: with integers as keys, and with pairs. No condition. -/
import Derived.Test.YtdpccnpaajhliaaIL8
import Derived.Laws.StructEq
import Derived.WideKeyRuns
namespace Go.Proofs.Ytdpccnpaajhliaa
open Go.RowKit

def aK (a b : Int) : Value := .agg #[.int .i64 a, .int .i64 b]
theorem pair_of {fs : List Field} {x y : String × TypeId × Nat} (h : fs.map (fun f => (f.name, f.type, f.offset)) = [x, y]) : ∃ f g, fs = [f, g] ∧ (f.name, f.type, f.offset) = x ∧ (g.name, g.type, g.offset) = y := by
  rcases fs with _ | ⟨f, _ | ⟨g, _ | ⟨k, l⟩⟩⟩
  · simp at h
  · simp at h
  · simp only [List.map_cons, List.map_nil, List.cons.injEq, and_true] at h
    exact ⟨f, g, rfl, h.1, h.2⟩
  · simp at h
theorem fieldsA : ∃ f g, (Try.prog.fieldsOf 26).toList = [f, g] ∧ (f.name = "Space" ∧ f.type = 3 ∧ f.offset = 0) ∧ (g.name = "N" ∧ g.type = 3 ∧ g.offset = 1) := by
  obtain ⟨f, g, h, hf, hg⟩ := pair_of (show (Try.prog.fieldsOf 26).toList.map (fun f => (f.name, f.type, f.offset)) = [("Space", 3, 0), ("N", 3, 1)] by kernel_rfl)
  simp only [Prod.mk.injEq] at hf hg
  exact ⟨f, g, h, hf, hg⟩
theorem part3 (w : World) (xs : Array Value) (i : Nat) (v : Value) (h : xs[i]? = some v) : (part 3 xs i).run Try.prog w = .ok v w := run_part_plain w (by kernel_rfl) h
theorem eqA (w : World) (a b c d : Int) : (Op.equal 26 (aK a b) (aK c d)).run Try.prog w = .ok (a == c && b == d) w := by
  obtain ⟨f, g, h0, ⟨f1, f2, f3⟩, ⟨g1, g2, g3⟩⟩ := fieldsA
  have ht : Try.prog.underlying 26 = some (.struct (Try.prog.fieldsOf 26)) := by kernel_rfl
  have h3 : Try.prog.underlying 3 = some (.int .i64) := by kernel_rfl
  unfold Op.equal Op.maxDepth aK
  rw [run_equalIn_struct w 9999 26 _ _ ht (by kernel_rfl), h0]
  simp only [Op.eqFields, f1, f2, f3, g1, g2, g3, Sem.run_bind, Sem.run_ite]
  simp only [part3 w _ _ _ (show (#[Value.int .i64 a, Value.int .i64 b])[0]? = some (.int .i64 a) from rfl), part3 w _ _ _ (show (#[Value.int .i64 c, Value.int .i64 d])[0]? = some (.int .i64 c) from rfl), part3 w _ _ _ (show (#[Value.int .i64 a, Value.int .i64 b])[1]? = some (.int .i64 b) from rfl), part3 w _ _ _ (show (#[Value.int .i64 c, Value.int .i64 d])[1]? = some (.int .i64 d) from rfl), run_equalIn_int w _ 3 _ _ _ _ h3, Result.andThen_ok]
  cases h : (a == c) <;> cases h' : (b == d) <;> simp
theorem chkA (w : World) (em : Bool) (a b : Int) : (Instr.checkKey em 10000 26 (aK a b)).run Try.prog w = .ok () w := by
  obtain ⟨f, g, h0, ⟨f1, f2, f3⟩, ⟨g1, g2, g3⟩⟩ := fieldsA
  have ht : Try.prog.underlying 26 = some (.struct (Try.prog.fieldsOf 26)) := by kernel_rfl
  have h3 : Try.prog.underlying 3 = some (.int .i64) := by kernel_rfl
  have hc : ∀ (v : Int), (Instr.checkKey em 9999 3 (.int .i64 v)).run Try.prog w = .ok () w := fun v => MapKept.run_checkKey (k := .int .i64 v) h3 (by simp [MapKept.IsKey]) em 9998
  have p1 := part3 w #[Value.int .i64 a, Value.int .i64 b] 0 (.int .i64 a) rfl
  have p2 := part3 w #[Value.int .i64 a, Value.int .i64 b] 1 (.int .i64 b) rfl
  rw [show (10000 : Nat) = 9999 + 1 from rfl, Instr.checkKey]
  simp only [Sem.run_bind, run_underlying ht, Result.andThen_ok, aK]
  rw [← Array.forIn_toList, h0]
  simp only [List.forIn_cons, List.forIn_nil, f1, f2, f3, g1, g2, g3, Sem.run_bind]
  simp [hc, p1, p2, Result.andThen]

/-- What a type of keys must answer. -/
structure MLaw (kt : TypeId) (K : Value → Prop) : Prop where
  check : ∀ (w : World) (em : Bool) (k : Value), K k → (Instr.checkKey em 10000 kt k).run Try.prog w = .ok () w
  find : ∀ (w : World) (x : Value), K x → ∀ es : List MapEntry, (∀ e ∈ es, K e.key) →
    ((Instr.findKey kt x es).run Try.prog w = .ok none w ∧ ∀ e ∈ es, e.key ≠ x) ∨ ∃ j e, (Instr.findKey kt x es).run Try.prog w = .ok (some (j, e.val)) w ∧ es[j]? = some e ∧ e.key = x
  stays : ∀ k : Value, K k → Instr.sameBits 10000 k k = true
def isI (v : Value) : Prop := ∃ n : Int, v = .int .i64 n
def isA (v : Value) : Prop := ∃ a b : Int, v = aK a b
theorem findNow_int (x : Int) : ∀ (es : List MapEntry) (i : Nat), (∀ e ∈ es, isI e.key) →
    (Instr.findNow (.int .i64) (.int .i64 x) es i = some none ∧ ∀ e ∈ es, e.key ≠ .int .i64 x) ∨ ∃ j e, Instr.findNow (.int .i64) (.int .i64 x) es i = some (some (i + j, e.val)) ∧ es[j]? = some e ∧ e.key = .int .i64 x
  | [], i, _ => Or.inl ⟨rfl, by simp⟩
  | e :: es, i, h => by
    obtain ⟨n, hn⟩ := h e (by simp)
    by_cases hx : x = n
    · right
      exact ⟨0, e, by simp [Instr.findNow, hn, Instr.sameNow, hx], rfl, by rw [hn, hx]⟩
    · have hb : (x == n) = false := by simpa using hx
      have e0 : Instr.findNow (.int .i64) (.int .i64 x) (e :: es) i = Instr.findNow (.int .i64) (.int .i64 x) es (i + 1) := by simp [Instr.findNow, hn, Instr.sameNow, hb]
      rw [e0]
      rcases findNow_int x es (i + 1) (fun y hy => h y (by simp [hy])) with ⟨h1, h2⟩ | ⟨j, e', h1, h2, h3⟩
      · left
        refine ⟨h1, fun y hy => ?_⟩
        rcases List.mem_cons.1 hy with rfl | hy
        · rw [hn]; intro hh; cases hh; exact hx rfl
        · exact h2 y hy
      · right
        exact ⟨j + 1, e', by rw [h1]; simp; omega, by simpa using h2, h3⟩
theorem findAsk_A (w : World) (a b : Int) : ∀ (es : List MapEntry) (i : Nat), (∀ e ∈ es, isA e.key) →
    ((Instr.findAsking 26 (aK a b) es i).run Try.prog w = .ok none w ∧ ∀ e ∈ es, e.key ≠ aK a b) ∨ ∃ j e, (Instr.findAsking 26 (aK a b) es i).run Try.prog w = .ok (some (i + j, e.val)) w ∧ es[j]? = some e ∧ e.key = aK a b
  | [], i, _ => Or.inl ⟨by simp [Instr.findAsking], by simp⟩
  | e :: es, i, h => by
    obtain ⟨c, d, hn⟩ := h e (by simp)
    have hq := eqA w a b c d
    by_cases hx : a = c ∧ b = d
    · obtain ⟨rfl, rfl⟩ := hx
      right
      exact ⟨0, e, by simp [Instr.findAsking, hn, hq], rfl, hn⟩
    · have hb : (a == c && b == d) = false := by
        cases h1 : (a == c && b == d) with
        | false => rfl
        | true => exact absurd (by simpa using h1) hx
      rw [hb] at hq
      have e0 : (Instr.findAsking 26 (aK a b) (e :: es) i).run Try.prog w = (Instr.findAsking 26 (aK a b) es (i + 1)).run Try.prog w := by simp [Instr.findAsking, hn, hq]
      rw [e0]
      rcases findAsk_A w a b es (i + 1) (fun y hy => h y (by simp [hy])) with ⟨h1, h2⟩ | ⟨j, e', h1, h2, h3⟩
      · left
        refine ⟨h1, fun y hy => ?_⟩
        rcases List.mem_cons.1 hy with rfl | hy
        · rw [hn]; intro hh
          simp only [aK, Value.agg.injEq, Array.mk.injEq, List.cons.injEq, Value.int.injEq, true_and, and_true] at hh
          exact hx ⟨hh.1.symm, hh.2.symm⟩
        · exact h2 y hy
      · right
        exact ⟨j + 1, e', by rw [h1]; simp; omega, by simpa using h2, h3⟩
theorem lawI : MLaw 3 isI where
  check := fun w em k h => by
    obtain ⟨n, rfl⟩ := h
    exact MapKept.run_checkKey (k := .int .i64 n) (show Try.prog.underlying 3 = some (.int .i64) by kernel_rfl) (by simp [MapKept.IsKey]) em 9999
  find := fun w x hx es h => by
    obtain ⟨n, rfl⟩ := hx
    have hd : Try.prog.underlying 3 = some (.int .i64) := by kernel_rfl
    rcases findNow_int n es 0 h with ⟨h1, h2⟩ | ⟨j, e, h1, h2, h3⟩
    · exact Or.inl ⟨MapKept.run_findKey hd h1, h2⟩
    · exact Or.inr ⟨j, e, by rw [MapKept.run_findKey hd h1]; simp, h2, h3⟩
  stays := fun k h => by obtain ⟨n, rfl⟩ := h; simp [Instr.sameBits]
theorem lawA : MLaw 26 isA where
  check := fun w em k h => by obtain ⟨a, b, rfl⟩ := h; exact chkA w em a b
  find := fun w x hx es h => by
    obtain ⟨a, b, rfl⟩ := hx
    rw [run_findKey_eq w (by kernel_rfl)]
    rcases findAsk_A w a b es 0 h with ⟨h1, h2⟩ | ⟨j, e, h1, h2, h3⟩
    · exact Or.inl ⟨h1, h2⟩
    · exact Or.inr ⟨j, e, by simpa using h1, h2, h3⟩
  stays := fun k h => by obtain ⟨a, b, rfl⟩ := h; simp [Instr.sameBits, aK]

/-- The map at the block mm, of keys K, is the set S. -/
def SetM (K : Value → Prop) (S : Value → Prop) (w : World) (mm : Nat) : Prop :=
  ∃ es c, w.heap[mm]? = some (.map es c) ∧ (∀ e ∈ es.toList, K e.key ∧ e.val = .bool true) ∧ ∀ k, (∃ e ∈ es.toList, e.key = k) ↔ S k
theorem SetM.lt {K S : Value → Prop} {w : World} {mm : Nat} (h : SetM K S w mm) : mm < w.heap.size := by
  obtain ⟨es, c, h, _⟩ := h
  exact (Array.getElem?_eq_some_iff.1 h).1
theorem SetM.nx {K S : Value → Prop} {w w' : World} {mm : Nat} (h : SetM K S w mm) (k : Nx w w') : SetM K S w' mm := by
  have hl := h.lt
  obtain ⟨es, c, h, h2⟩ := h
  exact ⟨es, c, by rw [k.block mm hl]; exact h, h2⟩
theorem SetM.mk0 (K : Value → Prop) (w : World) : SetM K (fun _ => False) (w.alloc (.map #[] 0)) w.heap.size :=
  ⟨#[], 0, heap_alloc_new w _, by simp, by simp⟩
theorem SetM.same {K S S' : Value → Prop} {w : World} {mm : Nat} (h : SetM K S w mm) (e : ∀ k, S k ↔ S' k) : SetM K S' w mm := by
  obtain ⟨es, c, h, h2, h3⟩ := h
  exact ⟨es, c, h, h2, fun k => (h3 k).trans (e k)⟩
/-- What a put leaves: one block is another. -/
def Puts (mm : Nat) (w w' : World) : Prop := ∃ o, w' = { w with heap := w.heap.setIfInBounds mm o }
theorem Puts.nx {mm : Nat} {W w w' : World} (h : Puts mm w w') (k : Nx W w) (hm : W.heap.size ≤ mm) : Nx W w' := by
  obtain ⟨o, rfl⟩ := h
  refine ⟨k.os, k.tape, k.output, by simpa using k.size, fun i hi => ?_⟩
  simp only [Array.getElem?_setIfInBounds_ne (show mm ≠ i by omega)]
  exact k.block i hi
theorem Puts.other {mm m2 : Nat} {K S : Value → Prop} {w w' : World} (h : Puts mm w w') (hne : mm ≠ m2) (k : SetM K S w m2) : SetM K S w' m2 := by
  obtain ⟨o, rfl⟩ := h
  obtain ⟨es, c, h, h2⟩ := k
  exact ⟨es, c, by simpa [hne] using h, h2⟩
theorem SetM.put {kt T : TypeId} {K S : Value → Prop} (L : MLaw kt K) (hT : Try.prog.underlying T = some (.map kt 4)) {w : World} {mm : Nat} (h : SetM K S w mm) {k : Value} (hk : K k) :
    ∃ w', (Instr.mapUpdate T (.map (some mm)) k (.bool true)).run Try.prog w = .ok () w' ∧ Puts mm w w' ∧ SetM K (fun x => x = k ∨ S x) w' mm := by
  have hl := h.lt
  obtain ⟨es, c, hb, h2, h3⟩ := h
  have hc := L.check w false k hk
  have hs : Instr.keyThatStays k k = pure k := by simp [Instr.keyThatStays, L.stays k hk]
  rcases L.find w k hk es.toList (fun e he => (h2 e he).1) with ⟨h4, h5⟩ | ⟨j, e, h4, h5, h6⟩
  · refine ⟨{ w with heap := w.heap.setIfInBounds mm (.map (es.push { key := k, val := .bool true, born := c }) (c + 1)) }, ?_, ⟨_, rfl⟩, es.push { key := k, val := .bool true, born := c }, c + 1, by simp [hl], fun e he => ?_, fun x => ?_⟩
    · simp [Instr.mapUpdate, run_underlying hT, MapKept.run_getObj_map hb, hc, h4, MapKept.run_setObj_map _ hb, Result.andThen]
    · simp at he
      rcases he with he | rfl
      · exact h2 e (by simpa using he)
      · exact ⟨hk, rfl⟩
    · simp only [Array.toList_push, List.mem_append, List.mem_singleton]
      constructor
      · rintro ⟨e, he | rfl, rfl⟩
        · exact Or.inr ((h3 _).1 ⟨e, he, rfl⟩)
        · exact Or.inl rfl
      · rintro (rfl | hx)
        · exact ⟨_, Or.inr rfl, rfl⟩
        · obtain ⟨e, he, rfl⟩ := (h3 x).2 hx
          exact ⟨e, Or.inl he, rfl⟩
  · have hej : es[j]? = some e := by simpa using h5
    have hme : e ∈ es.toList := List.mem_of_getElem? h5
    have hev := (h2 e hme).2
    have hek : ((es[j]?).map (·.key)).getD k = k := by rw [hej]; simpa using h6
    have hmod : es.modify j (fun e => { e with key := k, val := .bool true }) = es := by
      apply Array.ext'
      apply List.ext_getElem?
      intro i
      have hji : j < es.size := (Array.getElem?_eq_some_iff.1 hej).1
      simp only [Array.getElem?_toList, Array.getElem?_modify]
      by_cases hi : j = i
      · subst hi
        rw [if_pos rfl, hej]
        cases e
        simp at h6 hev
        simp [h6, hev]
      · rw [if_neg hi]
    refine ⟨{ w with heap := w.heap.setIfInBounds mm (.map es c) }, ?_, ⟨_, rfl⟩, es, c, by simp [hl], h2, fun x => ?_⟩
    · simp [Instr.mapUpdate, run_underlying hT, MapKept.run_getObj_map hb, hc, h4, hek, hs, hmod, MapKept.run_setObj_map _ hb, Result.andThen]
    · rw [h3 x]
      constructor
      · exact Or.inr
      · rintro (rfl | hx)
        · exact (h3 _).1 ⟨e, hme, h6⟩
        · exact hx
theorem SetM.look {kt T : TypeId} {K S : Value → Prop} (L : MLaw kt K) (hT : Try.prog.underlying T = some (.map kt 4)) {w : World} {mm : Nat} (h : SetM K S w mm) {k : Value} (hk : K k) :
    (S k → (Instr.lookup T (.map (some mm)) k false).run Try.prog w = .ok (.bool true) w) ∧ (¬ S k → (Instr.lookup T (.map (some mm)) k false).run Try.prog w = .ok (.bool false) w) := by
  obtain ⟨es, c, hb, h2, h3⟩ := h
  have hc := L.check w es.isEmpty k hk
  have hz : (zeroValue 4).run Try.prog w = .ok (.bool false) w := by
    obtain ⟨i, hi, hz⟩ : ∃ i, Try.prog.info? 4 = some i ∧ i.zero = some (.bool false) := by
      have h0 : (Try.prog.info? 4).map (fun i => i.zero) = some (some (.bool false)) := by kernel_rfl
      cases hi : Try.prog.info? 4 with
      | none => rw [hi] at h0; cases h0
      | some i => rw [hi] at h0; exact ⟨i, rfl, by simpa using h0⟩
    simp only [zeroValue, Sem.run_bind, run_typeInfo w hi, Result.andThen_ok, hz, Sem.run_pure]
  rcases L.find w k hk es.toList (fun e he => (h2 e he).1) with ⟨h4, h5⟩ | ⟨j, e, h4, h5, h6⟩
  · refine ⟨fun hs => ?_, fun _ => ?_⟩
    · obtain ⟨e, he, hek⟩ := (h3 k).2 hs
      exact absurd hek (h5 e he)
    · simp [Instr.lookup, run_underlying hT, MapKept.run_getObj_map hb, hc, h4, hz, Result.andThen]
  · have hme : e ∈ es.toList := List.mem_of_getElem? h5
    refine ⟨fun _ => ?_, fun hn => absurd ((h3 k).1 ⟨e, hme, h6⟩) hn⟩
    simp [Instr.lookup, run_underlying hT, MapKept.run_getObj_map hb, hc, h4, (h2 e hme).2, Result.andThen]
end Go.Proofs.Ytdpccnpaajhliaa
