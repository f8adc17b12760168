/- A map from bool with the keys false and true, put in in any order: the five states of its memory. No condition. -/
import Derived.Test.YtdpccnpaajhliaaIL8
import Derived.Test.YtdpccnpaajhliaaIR9
namespace Go.Proofs.Ytdpccnpaajhliaa
open Go.RowKit

def bE (k : Bool) (v : Value) (n : Nat) : MapEntry := { key := .bool k, val := v, born := n }
def bEs (u v : Value) : Nat → Array MapEntry
  | 0 => #[]
  | 1 => #[bE false u 0]
  | 2 => #[bE true v 0]
  | 3 => #[bE false u 0, bE true v 1]
  | _ => #[bE true v 0, bE false u 1]
def bC : Nat → Nat
  | 0 => 0
  | 1 => 1
  | 2 => 1
  | _ => 2
/-- The block mm holds the map in its state n. -/
def BM (u v : Value) (w : World) (mm n : Nat) : Prop := n ≤ 4 ∧ w.heap[mm]? = some (.map (bEs u v n) (bC n))
def bHas (k : Bool) (n : Nat) : Prop := (k = false ∧ (n = 1 ∨ n = 3 ∨ n = 4)) ∨ (k = true ∧ (n = 2 ∨ n = 3 ∨ n = 4))
/-- What every operation keeps: the memory below, and the maps' keys. -/
def BRel (W : World) (u v : Value) (w w' : World) : Prop := (Nx W w → Nx W w') ∧ ∀ mm n, BM u v w mm n → ∃ n', BM u v w' mm n' ∧ ∀ k, bHas k n → bHas k n'
theorem BRel.nx {W : World} {u v : Value} {w w' : World} (h : Nx w w') : BRel W u v w w' :=
  ⟨fun k => k.trans h, fun mm n hb => ⟨n, ⟨hb.1, by
    have hlt : mm < w.heap.size := (Array.getElem?_eq_some_iff.1 hb.2).1
    rw [h.block mm hlt]; exact hb.2⟩, fun _ k => k⟩⟩
theorem BRel.trans {W : World} {u v : Value} {a b c : World} (h : BRel W u v a b) (k : BRel W u v b c) : BRel W u v a c :=
  ⟨fun x => k.1 (h.1 x), fun mm n hb => by
    obtain ⟨n1, h1, k1⟩ := h.2 mm n hb
    obtain ⟨n2, h2, k2⟩ := k.2 mm n1 h1
    exact ⟨n2, h2, fun q hq => k2 q (k1 q hq)⟩⟩
theorem BM.of {u v : Value} {w w' : World} {W : World} {mm n : Nat} (h : BRel W u v w w') (hb : BM u v w mm n) : ∃ n', BM u v w' mm n' ∧ ∀ k, bHas k n → bHas k n' := h.2 mm n hb

def bPut : Bool → Nat → Nat
  | false, 0 => 1
  | false, 1 => 1
  | false, 2 => 4
  | false, 3 => 3
  | true, 0 => 2
  | true, 1 => 3
  | true, 2 => 2
  | true, 3 => 3
  | _, _ => 4
def bV (u v : Value) : Bool → Value
  | false => u
  | true => v
theorem mapU_new (T et : TypeId) (hm : Try.prog.underlying T = some (.map 4 et)) (w : World) (mm : Nat) (es : Array MapEntry) (c : Nat) (k : Bool) (v : Value) (hb : w.heap[mm]? = some (.map es c)) (hk : Instr.findNow .bool (.bool k) es.toList 0 = some none) :
    (Instr.mapUpdate T (.map (some mm)) (.bool k) v).run Try.prog w = .ok () { w with heap := w.heap.setIfInBounds mm (.map (es.push { key := .bool k, val := v, born := c }) (c + 1)) } := by
  have hd : Try.prog.underlying 4 = some .bool := by kernel_rfl
  have hc : (Instr.checkKey false 10000 4 (.bool k)).run Try.prog w = .ok () w := MapKept.run_checkKey (k := .bool k) hd (by simp [MapKept.IsKey]) false 9999
  simp [Instr.mapUpdate, run_underlying hm, MapKept.run_getObj_map hb, hc, MapKept.run_findKey hd hk, MapKept.run_setObj_map _ hb, Result.andThen]
theorem mapU_old (T et : TypeId) (hm : Try.prog.underlying T = some (.map 4 et)) (w : World) (mm : Nat) (es : Array MapEntry) (c : Nat) (k : Bool) (v u : Value) (i : Nat) (hb : w.heap[mm]? = some (.map es c)) (hk : Instr.findNow .bool (.bool k) es.toList 0 = some (some (i, u)))
    (he : ((es[i]?).map (·.key)).getD (.bool k) = .bool k) :
    (Instr.mapUpdate T (.map (some mm)) (.bool k) v).run Try.prog w = .ok () { w with heap := w.heap.setIfInBounds mm (.map (es.modify i fun e => { e with key := .bool k, val := v }) c) } := by
  have hd : Try.prog.underlying 4 = some .bool := by kernel_rfl
  have hc : (Instr.checkKey false 10000 4 (.bool k)).run Try.prog w = .ok () w := MapKept.run_checkKey (k := .bool k) hd (by simp [MapKept.IsKey]) false 9999
  have hs : Instr.keyThatStays (.bool k) (.bool k) = pure (.bool k) := by
    have : Instr.sameBits 10000 (.bool k) (.bool k) = true := by simp [Instr.sameBits]
    simp [Instr.keyThatStays, this]
  simp [Instr.mapUpdate, run_underlying hm, MapKept.run_getObj_map hb, hc, MapKept.run_findKey hd hk, he, hs, MapKept.run_setObj_map _ hb, Result.andThen]
theorem mapU (T et : TypeId) (hm : Try.prog.underlying T = some (.map 4 et)) (u v : Value) (w : World) (mm n : Nat) (hb : BM u v w mm n) (k : Bool) :
    (Instr.mapUpdate T (.map (some mm)) (.bool k) (bV u v k)).run Try.prog w = .ok () { w with heap := w.heap.setIfInBounds mm (.map (bEs u v (bPut k n)) (bC (bPut k n))) } := by
  obtain ⟨h4, hb⟩ := hb
  rcases n with _ | _ | _ | _ | _ | n
  all_goals first | omega | skip
  all_goals cases k
  · exact mapU_new T et hm w mm _ _ false u hb rfl
  · exact mapU_new T et hm w mm _ _ true v hb rfl
  · exact mapU_old T et hm w mm _ _ false u u 0 hb rfl rfl
  · exact mapU_new T et hm w mm _ _ true v hb rfl
  · exact mapU_new T et hm w mm _ _ false u hb rfl
  · exact mapU_old T et hm w mm _ _ true v v 0 hb rfl rfl
  · exact mapU_old T et hm w mm _ _ false u u 0 hb rfl rfl
  · exact mapU_old T et hm w mm _ _ true v v 1 hb rfl rfl
  · exact mapU_old T et hm w mm _ _ false u u 1 hb rfl rfl
  · exact mapU_old T et hm w mm _ _ true v v 0 hb rfl rfl
theorem mapU_rel {W : World} {u v : Value} {w : World} {mm n : Nat} (hb : BM u v w mm n) (k : Bool) (hmm : W.heap.size ≤ mm) :
    BRel W u v w { w with heap := w.heap.setIfInBounds mm (.map (bEs u v (bPut k n)) (bC (bPut k n))) } ∧ BM u v { w with heap := w.heap.setIfInBounds mm (.map (bEs u v (bPut k n)) (bC (bPut k n))) } mm (bPut k n) ∧ bHas k (bPut k n) := by
  have hlt : mm < w.heap.size := (Array.getElem?_eq_some_iff.1 hb.2).1
  have hp : bPut k n ≤ 4 := by
    have := hb.1
    rcases n with _ | _ | _ | _ | _ | n <;> cases k <;> simp [bPut]
  have hh : ∀ q, bHas q n → bHas q (bPut k n) := by
    have := hb.1
    intro q hq
    rcases n with _ | _ | _ | _ | _ | n <;> cases k <;> cases q <;> simp_all [bPut, bHas]
  have hk : bHas k (bPut k n) := by
    have := hb.1
    rcases n with _ | _ | _ | _ | _ | n <;> cases k <;> simp [bPut, bHas]
  refine ⟨⟨fun x => ⟨x.os, x.tape, x.output, by simpa using x.size, fun i hi => ?_⟩, fun m2 n2 h2 => ?_⟩, ⟨hp, by simp [hlt]⟩, hk⟩
  · have hne : i ≠ mm := by omega
    simp only [Array.getElem?_setIfInBounds_ne (Ne.symm hne)]
    exact x.block i hi
  · by_cases e : m2 = mm
    · subst e
      have en : n2 = n := by
        have h5 := h2.2
        rw [hb.2] at h5
        have h6 := hb.1
        have h7 := h2.1
        rcases n with _ | _ | _ | _ | _ | n <;> rcases n2 with _ | _ | _ | _ | _ | n2 <;> first | rfl | omega | (simp [bEs, bC, bE] at h5)
      subst en
      exact ⟨bPut k n2, ⟨hp, by simp [hlt]⟩, hh⟩
    · exact ⟨n2, ⟨h2.1, by simpa [Ne.symm e] using h2.2⟩, fun _ h => h⟩
theorem bM_both {u v : Value} {w : World} {mm n m : Nat} (h : BM u v w mm n) (h2 : BM u v w mm m) (hf : bHas false n) (ht : bHas true m) : ∃ n, BM u v w mm n ∧ bHas false n ∧ bHas true n := by
  have en : m = n := by
    have h5 := h2.2
    rw [h.2] at h5
    have h6 := h.1
    have h7 := h2.1
    rcases n with _ | _ | _ | _ | _ | n <;> rcases m with _ | _ | _ | _ | _ | m <;> first | rfl | omega | (simp [bEs, bC, bE] at h5)
  subst en
  exact ⟨m, h, hf, ht⟩
theorem mapL (T et : TypeId) (hm : Try.prog.underlying T = some (.map 4 et)) (u v : Value) (w : World) (mm n : Nat) (hb : BM u v w mm n) (k : Bool) (hk : bHas k n) :
    (Instr.lookup T (.map (some mm)) (.bool k) false).run Try.prog w = .ok (bV u v k) w := by
  obtain ⟨h4, hb⟩ := hb
  have hd : Try.prog.underlying 4 = some .bool := by kernel_rfl
  have hc : ∀ es : Array MapEntry, (Instr.checkKey es.isEmpty 10000 4 (.bool k)).run Try.prog w = .ok () w := fun es => MapKept.run_checkKey (k := .bool k) hd (by simp [MapKept.IsKey]) _ 9999
  have hf : ∃ i, Instr.findNow .bool (.bool k) (bEs u v n).toList 0 = some (some (i, bV u v k)) := by
    rcases n with _ | _ | _ | _ | _ | n <;> cases k <;> first | (simp [bHas] at hk; done) | exact ⟨0, rfl⟩ | exact ⟨1, rfl⟩
  obtain ⟨i, hf⟩ := hf
  simp [Instr.lookup, run_underlying hm, MapKept.run_getObj_map hb, hc, MapKept.run_findKey hd hf, Result.andThen]
end Go.Proofs.Ytdpccnpaajhliaa
