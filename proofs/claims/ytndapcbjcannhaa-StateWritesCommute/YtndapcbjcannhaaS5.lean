/- What package state's New returns. Conditions: none. -/
import Derived.Test.YtndapcbjcannhaaS4
namespace Go.Proofs.Ytndapcbjcannhaa
open Go.RowKit

theorem made_own (w : World) (n : Nat) (hn : n ≤ 1000000) : OwB (w.alloc (.cells (madeCells #[.bool false] n) 4)) w.heap.size w.heap.size n (List.replicate n false) := by
  refine own_of_block (by simp) (Nat.le_refl _) ?_ hn
  rw [show (bools (List.replicate n false)).toArray = madeCells #[.bool false] n by rw [show bools (List.replicate n false) = List.replicate n (Value.bool false) by simp [bools], ← toList_madeCells_one]]
  exact heap_alloc_new w _

set_option maxHeartbeats 1600000 in
set_option maxRecDepth 100000 in
theorem new_no (i q m e : Int) (h : ¬ sizeOK i q m e) (w : World) :
    Calls Try.prog 10 #[.agg #[.int .i64 i, .int .i64 q, .int .i64 m, .int .i64 e]] w fun r w' => r = .returned (.tuple #[.agg #[.slice none 0 0, .slice none 0 0, .slice none 0 0], .int .i64 3]) ∧ Nx w w' := by
  have CS := Lib.hid (checkSize_any i q m e)
  rw [csz_no h] at CS
  clear h
  have N0 := Lib.hid (show Nx w ((w.alloc (.cells #[.int .i64 i, .int .i64 q, .int .i64 m, .int .i64 e] 23)).alloc (.cells #[.slice none 0 0, .slice none 0 0, .slice none 0 0] 26)) from (Nx.one _ _).alloc _)
  have XR := Lib.hid (bx_new (w.alloc (.cells #[.int .i64 i, .int .i64 q, .int .i64 m, .int .i64 e] 23)) 26 [.slice none 0 0, .slice none 0 0, .slice none 0 0])
  rw [show (w.alloc (.cells #[.int .i64 i, .int .i64 q, .int .i64 m, .int .i64 e] 23)).heap.size = w.heap.size + 1 by simp] at XR
  go_enter Try.func10, Try.ntmps10
  go_wp2_with fail
  refine (CS.out _).mono ?_
  rintro r w1 ⟨rfl, h1⟩
  have XR1 := XR.out.nx h1
  have r0 := XR1.cell 0 rfl
  have r1 := XR1.cell 1 rfl
  have r2 := XR1.cell 2 rfl
  have q0 := XR1.frozen 0
  have q1 := XR1.frozen 1
  have q2 := XR1.frozen 2
  have z0 := (XR1.put 0 (.slice none 0 0)).cell 0 rfl
  have z1 := ((XR1.put 0 (.slice none 0 0)).put 1 (.slice none 0 0)).cell 1 rfl
  have z2 := (((XR1.put 0 (.slice none 0 0)).put 1 (.slice none 0 0)).put 2 (.slice none 0 0)).cell 2 rfl
  have H1 := Lib.hid (N0.out.trans h1)
  clear h1 XR1
  go_wp2
  try simp only [Exit.inBlock, Exit.then]
  refine bodyPost_ret (by simp [results, Try.results10, go_sem, z0, z1, z2]; try rfl) rfl ?_
  exact ⟨rfl, ((H1.out.set (by omega) _).set (by omega) _).set (by omega) _⟩

set_option maxHeartbeats 1600000 in
set_option maxRecDepth 100000 in
theorem new_ok (i q m e : Nat) (hi : i ≤ 256) (hq : q ≤ 256) (hm : m ≤ 256) (he : e ≤ 16384) (w : World) :
    Calls Try.prog 10 #[.agg #[.int .i64 i, .int .i64 q, .int .i64 m, .int .i64 e]] w fun r w' => ∃ v, r = .returned (.tuple #[v, .int .i64 0]) ∧ OwS w' w.heap.size v q m e (List.replicate q false) (List.replicate m false) (List.replicate e false) ∧ Nx w w' := by
  have CS := Lib.hid (checkSize_any i q m e)
  rw [csz_yes (show sizeOK i q m e by unfold sizeOK; omega)] at CS
  have mk1 := run_make_row' (P := Try.prog) 24 4 (.bool false) 1 Try.underlying24 info4 rfl .i64 .i64 q (by omega) (by omega)
  have mk2 := run_make_row' (P := Try.prog) 24 4 (.bool false) 1 Try.underlying24 info4 rfl .i64 .i64 m (by omega) (by omega)
  have mk3 := run_make_row' (P := Try.prog) 24 4 (.bool false) 1 Try.underlying24 info4 rfl .i64 .i64 e (by omega) (by omega)
  have i0 : ∀ w, (Instr.index 61 (.agg #[.int .i64 q, .int .i64 m, .int .i64 e]) (.int .i64 0)).run Try.prog w = .ok (.int .i64 q) w := fun _ => by kernel_rfl
  have i1 : ∀ w, (Instr.index 61 (.agg #[.int .i64 q, .int .i64 m, .int .i64 e]) (.int .i64 1)).run Try.prog w = .ok (.int .i64 m) w := fun _ => by kernel_rfl
  have i2 : ∀ w, (Instr.index 61 (.agg #[.int .i64 q, .int .i64 m, .int .i64 e]) (.int .i64 2)).run Try.prog w = .ok (.int .i64 e) w := fun _ => by kernel_rfl
  have N0 := Lib.hid (show Nx w ((w.alloc (.cells #[.int .i64 i, .int .i64 q, .int .i64 m, .int .i64 e] 23)).alloc (.cells #[.slice none 0 0, .slice none 0 0, .slice none 0 0] 26)) from (Nx.one _ _).alloc _)
  have XR := Lib.hid (bx_new (w.alloc (.cells #[.int .i64 i, .int .i64 q, .int .i64 m, .int .i64 e] 23)) 26 [.slice none 0 0, .slice none 0 0, .slice none 0 0])
  rw [show (w.alloc (.cells #[.int .i64 i, .int .i64 q, .int .i64 m, .int .i64 e] 23)).heap.size = w.heap.size + 1 by simp] at XR
  have XS := Lib.hid ((bx_new w 23 [.int .i64 i, .int .i64 q, .int .i64 m, .int .i64 e]).nx (Nx.one _ (.cells #[.slice none 0 0, .slice none 0 0, .slice none 0 0] 26)))
  go_enter Try.func10, Try.ntmps10
  go_wp2_with fail
  refine (CS.out _).mono ?_
  rintro r w1 ⟨rfl, h1⟩
  have hz := h1.alloc (.cells #[.slice none 0 0, .slice none 0 0, .slice none 0 0] 60)
  have s0 := (XS.out.nx hz).cell 0 rfl
  have s1 := (XS.out.nx hz).cell 1 rfl
  have s2 := (XS.out.nx hz).cell 2 rfl
  have s3 := (XS.out.nx hz).cell 3 rfl
  have XR1 := Lib.hid (XR.out.nx hz)
  have H1 := Lib.hid (N0.out.trans hz)
  have B1 := Lib.hid (show w.heap.size + 2 ≤ w1.heap.size by have := h1.size; simpa using this)
  have XB1 := Lib.hid (bx_new w1 60 [.slice none 0 0, .slice none 0 0, .slice none 0 0])
  clear h1 hz
  go_wp2_with fail
  refine (sizesOf_any _ _ _ _ _).mono ?_
  rintro r w2 ⟨rfl, h2⟩
  clear s0 s1 s2 s3
  have H2 := Lib.hid (H1.out.trans h2)
  have XR2 := Lib.hid (XR1.out.nx h2)
  have XB2 := Lib.hid (XB1.out.nx h2)
  clear h2
  go_wp2_with fail
  refine wp_loop_rounds 4 ?_
  rw [rounds_succ]
  have Y1 := Lib.hid (XB2.out.nx (Nx.one w2 (.cells (madeCells #[.bool false] q) 4)))
  have g := Y1.out.cell 0 rfl
  have f := Y1.out.frozen 0
  go_wp2
  clear g f
  have XB3 := Lib.hid (Y1.out.put 0 (.slice (some ⟨w2.heap.size, 0, none⟩) q q))
  have D1 := Lib.hid (show w1.heap.size < w2.heap.size from XB2.out.lt)
  have XR3 := Lib.hid ((XR2.out.nx (Nx.one w2 (.cells (madeCells #[.bool false] q) 4))).far (b := w1.heap.size) (i := 0) (o := none) (by have := B1.out; omega) (.slice (some ⟨w2.heap.size, 0, none⟩) q q))
  have H3 := Lib.hid ((H2.out.alloc (.cells (madeCells #[.bool false] q) 4)).set (g := w1.heap.size) (i := 0) (o := none) (by have := B1.out; omega) (.slice (some ⟨w2.heap.size, 0, none⟩) q q))
  have O11 := Lib.hid (((made_own w2 q (by omega)).low H2.out.size).far (b := w1.heap.size) (i := 0) (o := none) (by have := D1.out; omega) (.slice (some ⟨w2.heap.size, 0, none⟩) q q))
  generalize ((w2.alloc (.cells (madeCells #[.bool false] q) 4))).setCell ⟨w1.heap.size, 0, none⟩ (.slice (some ⟨w2.heap.size, 0, none⟩) q q) = w3 at *
  rw [rounds_succ]
  have Y2 := Lib.hid (XB3.out.nx (Nx.one w3 (.cells (madeCells #[.bool false] m) 4)))
  have g := Y2.out.cell 1 rfl
  have f := Y2.out.frozen 1
  go_wp2
  clear g f
  have XB4 := Lib.hid (Y2.out.put 1 (.slice (some ⟨w3.heap.size, 0, none⟩) m m))
  have D2 := Lib.hid (show w1.heap.size < w3.heap.size from XB3.out.lt)
  have XR4 := Lib.hid ((XR3.out.nx (Nx.one w3 (.cells (madeCells #[.bool false] m) 4))).far (b := w1.heap.size) (i := 1) (o := none) (by have := B1.out; omega) (.slice (some ⟨w3.heap.size, 0, none⟩) m m))
  have H4 := Lib.hid ((H3.out.alloc (.cells (madeCells #[.bool false] m) 4)).set (g := w1.heap.size) (i := 1) (o := none) (by have := B1.out; omega) (.slice (some ⟨w3.heap.size, 0, none⟩) m m))
  have P12 := Lib.hid (show w2.heap.size < w3.heap.size from (World.ownsRow.lt O11.out w2.heap.size rfl).2)
  have O12 := Lib.hid ((O11.out.nx (Nx.one w3 (.cells (madeCells #[.bool false] m) 4))).far (b := w1.heap.size) (i := 1) (o := none) (by have := D1.out; omega) (.slice (some ⟨w3.heap.size, 0, none⟩) m m))
  have O22 := Lib.hid (((made_own w3 m (by omega)).low H3.out.size).far (b := w1.heap.size) (i := 1) (o := none) (by have := D2.out; omega) (.slice (some ⟨w3.heap.size, 0, none⟩) m m))
  generalize ((w3.alloc (.cells (madeCells #[.bool false] m) 4))).setCell ⟨w1.heap.size, 1, none⟩ (.slice (some ⟨w3.heap.size, 0, none⟩) m m) = w4 at *
  rw [rounds_succ]
  have Y3 := Lib.hid (XB4.out.nx (Nx.one w4 (.cells (madeCells #[.bool false] e) 4)))
  have g := Y3.out.cell 2 rfl
  have f := Y3.out.frozen 2
  go_wp2
  clear g f
  have XB5 := Lib.hid (Y3.out.put 2 (.slice (some ⟨w4.heap.size, 0, none⟩) e e))
  have D3 := Lib.hid (show w1.heap.size < w4.heap.size from XB4.out.lt)
  have XR5 := Lib.hid ((XR4.out.nx (Nx.one w4 (.cells (madeCells #[.bool false] e) 4))).far (b := w1.heap.size) (i := 2) (o := none) (by have := B1.out; omega) (.slice (some ⟨w4.heap.size, 0, none⟩) e e))
  have H5 := Lib.hid ((H4.out.alloc (.cells (madeCells #[.bool false] e) 4)).set (g := w1.heap.size) (i := 2) (o := none) (by have := B1.out; omega) (.slice (some ⟨w4.heap.size, 0, none⟩) e e))
  have P13 := Lib.hid (show w2.heap.size < w4.heap.size from (World.ownsRow.lt O12.out w2.heap.size rfl).2)
  have O13 := Lib.hid ((O12.out.nx (Nx.one w4 (.cells (madeCells #[.bool false] e) 4))).far (b := w1.heap.size) (i := 2) (o := none) (by have := D1.out; omega) (.slice (some ⟨w4.heap.size, 0, none⟩) e e))
  have P23 := Lib.hid (show w3.heap.size < w4.heap.size from (World.ownsRow.lt O22.out w3.heap.size rfl).2)
  have O23 := Lib.hid ((O22.out.nx (Nx.one w4 (.cells (madeCells #[.bool false] e) 4))).far (b := w1.heap.size) (i := 2) (o := none) (by have := D2.out; omega) (.slice (some ⟨w4.heap.size, 0, none⟩) e e))
  have O33 := Lib.hid (((made_own w4 e (by omega)).low H4.out.size).far (b := w1.heap.size) (i := 2) (o := none) (by have := D3.out; omega) (.slice (some ⟨w4.heap.size, 0, none⟩) e e))
  generalize ((w4.alloc (.cells (madeCells #[.bool false] e) 4))).setCell ⟨w1.heap.size, 2, none⟩ (.slice (some ⟨w4.heap.size, 0, none⟩) e e) = w5 at *
  rw [rounds_succ]
  have u1 := XB5.out.cell 0 rfl
  have u2 := XB5.out.cell 1 rfl
  have u3 := XB5.out.cell 2 rfl
  go_wp2_with fail
  clear u1 u2 u3
  refine (stateOf_any _ _ _ _ _ _ _ _ _ _).mono ?_
  rintro r w6 ⟨rfl, h6⟩
  have XR6 := Lib.hid (XR5.out.nx h6)
  have r1 := XR6.out.cell 0 rfl
  have r2 := XR6.out.cell 1 rfl
  have r3 := XR6.out.cell 2 rfl
  have q1 := XR6.out.frozen 0
  have q2 := XR6.out.frozen 1
  have q3 := XR6.out.frozen 2
  have O1 := Lib.hid (O13.out.nx h6)
  have O2 := Lib.hid (O23.out.nx h6)
  have O3 := Lib.hid (O33.out.nx h6)
  have H6 := Lib.hid (H5.out.trans h6)
  clear h6
  have Z1 := XR6.out.put 0 (.slice (some ⟨w2.heap.size, 0, none⟩) q q)
  have Z2 := Z1.put 1 (.slice (some ⟨w3.heap.size, 0, none⟩) m m)
  have Z3 := Z2.put 2 (.slice (some ⟨w4.heap.size, 0, none⟩) e e)
  have z1 := Z1.cell 0 rfl
  have z2 := Z2.cell 1 rfl
  have z3 := Z3.cell 2 rfl
  clear Z1 Z2 Z3
  go_wp2
  try simp only [Exit.inBlock, Exit.then]
  refine bodyPost_ret (by simp [results, Try.results10, go_sem, z1, z2, z3]; try rfl) rfl ?_
  have b1 := B1.out
  have d1 := D1.out
  have d2 := D2.out
  have d3 := D3.out
  exact ⟨_, rfl, ⟨w2.heap.size, w3.heap.size, w4.heap.size, q, m, e, rfl, ⟨P12.out, P23.out⟩,
    ⟨((O1.out.far (by omega) _).far (by omega) _).far (by omega) _, by simp⟩, ⟨((O2.out.far (by omega) _).far (by omega) _).far (by omega) _, by simp⟩, ⟨((O3.out.far (by omega) _).far (by omega) _).far (by omega) _, by simp⟩⟩,
    ((H6.out.set (by omega) _).set (by omega) _).set (by omega) _⟩
end Go.Proofs.Ytndapcbjcannhaa
