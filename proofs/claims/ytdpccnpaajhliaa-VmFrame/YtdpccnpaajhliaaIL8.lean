/- The walk of the law on the branch stack. No condition. -/
import Derived.Test.YtdpccnpaajhliaaIXG
import Derived.Test.YtdpccnpaajhliaaML
namespace Go.Proofs.Ytdpccnpaajhliaa
open Go.RowKit

/-- The program behind so many bits. -/
def brP : Nat → List In4
  | 0 => []
  | j + 1 => ⟨0, 0, 0, 0⟩ :: brLoad 1 j
theorem brLoad_snoc (i m : Nat) : brLoad i (m + 1) = brLoad i m ++ [⟨8, 0, 0, 0⟩, ⟨0, 0, ((i + m : Nat) : Int), 0⟩] := by
  induction m generalizing i with
  | zero => rfl
  | succ m ih =>
    rw [brLoad, ih (i + 1), brLoad]
    have e : i + 1 + m = i + (m + 1) := by omega
    rw [e]
    rfl
theorem brP_len (j : Nat) : (brP (j + 1)).length = 2 * j + 1 := by simp [brP, brLoad_len]
theorem brP_succ (j : Nat) : ins (brP (j + 2)) = ins (brP (j + 1)) ++ [.int .i64 8, .int .i64 0, .int .i64 0, .int .i64 0] ++ [.int .i64 0, .int .i64 0, .int .i64 ((j : Int) + 1), .int .i64 0] := by
  have e : brP (j + 2) = brP (j + 1) ++ [⟨8, 0, 0, 0⟩, ⟨0, 0, ((1 + j : Nat) : Int), 0⟩] := by
    show (⟨0, 0, 0, 0⟩ : In4) :: brLoad 1 (j + 1) = _
    rw [brLoad_snoc]
    rfl
  rw [e, ins_app]
  have e2 : ((1 + j : Nat) : Int) = (j : Int) + 1 := by omega
  rw [e2, List.append_assoc]
  rfl
theorem brP0 {w : World} {B m : Nat} {v : Value} (o : Int) (h : w.ownsRow B 28 4 v (brP (m + 1)).length (ins (brP (m + 1)))) : w.ownsRow B 28 4 v (2 * m + 1 + 0) (ins (brP (m + 1) ++ List.replicate 0 ⟨o, 0, 0, 0⟩)) := by
  rw [brP_len] at h
  simpa using h
theorem brO_succ (xs : List In4) (j : Nat) (o : Int) : ins (xs ++ List.replicate (j + 1) ⟨o, 0, 0, 0⟩) = ins (xs ++ List.replicate j ⟨o, 0, 0, 0⟩) ++ [.int .i64 o, .int .i64 0, .int .i64 0, .int .i64 0] := by
  rw [List.replicate_succ', ← List.append_assoc, ins_app (xs ++ _)]
  rfl
theorem brCode_ins (m : Nat) (o : Int) : ins (brCode m o) = ins (brP (m + 1) ++ List.replicate m ⟨o, 0, 0, 0⟩) ++ [.int .i64 11, .int .i64 2, .int .i64 0, .int .i64 0, .int .i64 16, .int .i64 0, .int .i64 0, .int .i64 0] := by
  have e : brCode m o = (brP (m + 1) ++ List.replicate m ⟨o, 0, 0, 0⟩) ++ [⟨11, 2, 0, 0⟩, ⟨16, 0, 0, 0⟩] := by simp [brCode, brP]
  rw [e, ins_app]
  rfl
theorem all_snoc (l : List Bool) (j : Nat) (b : Bool) (h : l[j]? = some b) : (l.take (j + 1)).all id = ((l.take j).all id && b) ∧ (l.take (j + 1)).any id = ((l.take j).any id || b) := by
  rw [List.take_add_one, h]
  simp
theorem mapB_step (T et : TypeId) (hm : Try.prog.underlying T = some (.map 4 et)) (w : World) (es : Array MapEntry) (c : Nat) (k : Bool) (v : Value) (hk : Instr.findNow .bool (.bool k) es.toList 0 = some none) :
    (Instr.mapUpdate T (.map (some w.heap.size)) (.bool k) v).run Try.prog (w.alloc (.map es c)) = .ok () (w.alloc (.map (es.push { key := .bool k, val := v, born := c }) (c + 1))) := by
  have hb : (w.alloc (.map es c)).heap[w.heap.size]? = some (.map es c) := heap_alloc_new w _
  have hd : Try.prog.underlying 4 = some .bool := by kernel_rfl
  have hc : (Instr.checkKey false 10000 4 (.bool k)).run Try.prog (w.alloc (.map es c)) = .ok () (w.alloc (.map es c)) := MapKept.run_checkKey (k := .bool k) hd (by simp [MapKept.IsKey]) false 9999
  rw [← alloc_set w (.map es c) (.map (es.push { key := .bool k, val := v, born := c }) (c + 1))]
  simp [Instr.mapUpdate, run_underlying hm, MapKept.run_getObj_map hb, hc, MapKept.run_findKey hd hk, MapKept.run_setObj_map _ hb, Result.andThen]
theorem mapB_look (T et : TypeId) (hm : Try.prog.underlying T = some (.map 4 et)) (w : World) (es : Array MapEntry) (c : Nat) (k : Bool) (i : Nat) (v z : Value) (hf : Instr.findNow .bool (.bool k) es.toList 0 = some (some (i, v))) (_hz : z = z) :
    (Instr.lookup T (.map (some w.heap.size)) (.bool k) false).run Try.prog (w.alloc (.map es c)) = .ok v (w.alloc (.map es c)) := by
  have hb : (w.alloc (.map es c)).heap[w.heap.size]? = some (.map es c) := heap_alloc_new w _
  have hd : Try.prog.underlying 4 = some .bool := by kernel_rfl
  have hc : (Instr.checkKey es.isEmpty 10000 4 (.bool k)).run Try.prog (w.alloc (.map es c)) = .ok () (w.alloc (.map es c)) := MapKept.run_checkKey (k := .bool k) hd (by simp [MapKept.IsKey]) _ 9999
  simp [Instr.lookup, run_underlying hm, MapKept.run_getObj_map hb, hc, MapKept.run_findKey hd hf, Result.andThen]
def mE (k : Bool) (v : Value) (b : Nat) : MapEntry := { key := .bool k, val := v, born := b }

set_option maxHeartbeats 1600000 in
set_option maxRecDepth 100000 in
theorem law6_branch_no (Ai : Option Addr) (ni ci : Nat) (o : Bool) (hni : ni = 0 ∨ 60 < ni) (w : World) :
    Calls Try.prog 3 #[.slice Ai ni ci, .bool o] w fun e w' => e = .returned (.bool true) ∧ Nx w w' := by
  rcases hni with rfl | hn
  · go_enter Try.func3, Try.ntmps3
    go_wp2_with fail
    refine (al_ok w).mono ?_
    rintro e w1 ⟨rfl, hn⟩
    go_wp2_with fail
    go_ret
    exact ⟨rfl, hn⟩
  · have h0 : ¬ ni = 0 := by omega
    have h1 : (60 : Int) < (ni : Int) := by omega
    go_enter Try.func3, Try.ntmps3
    go_wp2_with fail
    refine (al_ok w).mono ?_
    rintro e w1 ⟨rfl, hn⟩
    go_wp2_with fail
    go_ret
    exact ⟨rfl, hn⟩
end Go.Proofs.Ytdpccnpaajhliaa
