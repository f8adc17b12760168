/- What package state's Format returns, and the reference's. Conditions: images that read as lists of bools, of at most a million. -/
import Derived.Test.YtdpccnpaajhliaaIShelf
import Derived.Test.YtdpccnpaajhliaaMB
import Derived.Deep.QuietTactic
import Derived.BigQuiet
namespace Go.Proofs.Ytdpccnpaajhliaa
open Go.RowKit

/-- The textual form of a state. -/
def stxt (x1 x2 x3 : List Bool) : ByteArray := txt x1 ++ ⟨#[32]⟩ ++ txt x2 ++ ⟨#[32]⟩ ++ txt x3
theorem txt_size (x : List Bool) (h : x.length ≤ 1000000) : (txt x).size ≤ 1000000 := by
  by_cases h0 : x.length = 0
  · rw [txt_nil h0]; decide
  · rw [txt_pos (by omega), size_tx]; exact h
theorem im_format {A : Option Addr} {m c : Nat} {x : List Bool} {w : World} (hm : m ≤ 1000000) (h : Im w A m c x) :
    Calls Try.prog 17 #[.slice A m c] w fun e w' => e = .returned (.string (txt x)) ∧ Nx w w' := by
  have := format_any A x c (by have := h.2.1; omega) w h.1
  rwa [h.2.1] at this
theorem join3 (a b c : ByteArray) : (⟨(Lib.join ([a, b, c].map (·.data.toList)) (ByteArray.mk #[32]).data.toList).toArray⟩ : ByteArray) = a ++ ⟨#[32]⟩ ++ b ++ ⟨#[32]⟩ ++ c := by
  apply ByteArray.ext
  simp [Lib.join, List.intercalate]

set_option maxHeartbeats 1600000 in
set_option maxRecDepth 100000 in
theorem stFormat_any (A1 A2 A3 : Option Addr) (m1 m2 m3 c1 c2 c3 : Nat) (x1 x2 x3 : List Bool) (hm1 : m1 ≤ 1000000) (hm2 : m2 ≤ 1000000) (hm3 : m3 ≤ 1000000) (w : World) (hx1 : Im w A1 m1 c1 x1) (hx2 : Im w A2 m2 c2 x2) (hx3 : Im w A3 m3 c3 x3) :
    Calls Try.prog 9 #[.agg #[.slice A1 m1 c1, .slice A2 m2 c2, .slice A3 m3 c3]] w fun e w' => e = .returned (.string (stxt x1 x2 x3)) ∧ Nx w w' := by
  have z1 := txt_size x1 (by have := hx1.2.1; omega)
  have z2 := txt_size x2 (by have := hx2.2.1; omega)
  have z3 := txt_size x3 (by have := hx3.2.1; omega)
  have F1 := Lib.hid (fun w' (k : Nx w w') => im_format hm1 (hx1.nx k))
  have F2 := Lib.hid (fun w' (k : Nx w w') => im_format hm2 (hx2.nx k))
  have F3 := Lib.hid (fun w' (k : Nx w w') => im_format hm3 (hx3.nx k))
  clear hx1 hx2 hx3
  unfold stxt
  generalize txt x1 = t1 at *
  generalize txt x2 = t2 at *
  generalize txt x3 = t3 at *
  have i0 : ∀ w, (Instr.index 53 (.agg #[.slice A1 m1 c1, .slice A2 m2 c2, .slice A3 m3 c3]) (.int .i64 0)).run Try.prog w = .ok (.slice A1 m1 c1) w := fun _ => by kernel_rfl
  have i1 : ∀ w, (Instr.index 53 (.agg #[.slice A1 m1 c1, .slice A2 m2 c2, .slice A3 m3 c3]) (.int .i64 1)).run Try.prog w = .ok (.slice A2 m2 c2) w := fun _ => by kernel_rfl
  have i2 : ∀ w, (Instr.index 53 (.agg #[.slice A1 m1 c1, .slice A2 m2 c2, .slice A3 m3 c3]) (.int .i64 2)).run Try.prog w = .ok (.slice A3 m3 c3) w := fun _ => by kernel_rfl
  have N0 := Lib.hid (show Nx w ((w.alloc (.cells #[.slice A1 m1 c1, .slice A2 m2 c2, .slice A3 m3 c3] 31)).alloc (.cells #[.string ⟨#[]⟩, .string ⟨#[]⟩, .string ⟨#[]⟩] 51)) from (Nx.one _ _).alloc _)
  have XT := Lib.hid (bx_new (w.alloc (.cells #[.slice A1 m1 c1, .slice A2 m2 c2, .slice A3 m3 c3] 31)) 51 [.string ⟨#[]⟩, .string ⟨#[]⟩, .string ⟨#[]⟩])
  rw [show (w.alloc (.cells #[.slice A1 m1 c1, .slice A2 m2 c2, .slice A3 m3 c3] 31)).heap.size = w.heap.size + 1 by simp] at XT
  go_enter Try.func9, Try.ntmps9
  go_wp2_with fail
  generalize (w.alloc (.cells #[.slice A1 m1 c1, .slice A2 m2 c2, .slice A3 m3 c3] 31)).alloc (.cells #[.string ⟨#[]⟩, .string ⟨#[]⟩, .string ⟨#[]⟩] 51) = W at *
  refine (imagesOf_any _ _ _ _ _ _ _ _ _ _).mono ?_
  rintro e w1 ⟨rfl, h1⟩
  have H1 := Lib.hid (N0.out.trans h1)
  have X1 := Lib.hid (XT.out.nx h1)
  clear h1
  go_wp2_with fail
  refine wp_loop_rounds 4 ?_
  rw [rounds_succ]
  go_wp2_with fail
  refine (F1.out _ H1.out).mono ?_
  rintro e v1 ⟨rfl, k1⟩
  have Y1 := Lib.hid (X1.out.nx k1)
  have g := Y1.out.cell 0 rfl
  have f := Y1.out.frozen 0
  have X2 := Lib.hid (Y1.out.put 0 (.string t1))
  have H2 := Lib.hid ((H1.out.trans k1).set (g := w.heap.size + 1) (i := 0) (o := none) (by omega) (.string t1))
  clear k1
  go_wp2
  clear g f
  generalize v1.setCell ⟨w.heap.size + 1, 0, none⟩ (.string t1) = w2 at *
  rw [rounds_succ]
  go_wp2_with fail
  refine (F2.out _ H2.out).mono ?_
  rintro e v2 ⟨rfl, k2⟩
  have Y2 := Lib.hid (X2.out.nx k2)
  have g := Y2.out.cell 1 rfl
  have f := Y2.out.frozen 1
  have X3 := Lib.hid (Y2.out.put 1 (.string t2))
  have H3 := Lib.hid ((H2.out.trans k2).set (g := w.heap.size + 1) (i := 1) (o := none) (by omega) (.string t2))
  clear k2
  go_wp2
  clear g f
  generalize v2.setCell ⟨w.heap.size + 1, 1, none⟩ (.string t2) = w3 at *
  rw [rounds_succ]
  go_wp2_with fail
  refine (F3.out _ H3.out).mono ?_
  rintro e v3 ⟨rfl, k3⟩
  have Y3 := Lib.hid (X3.out.nx k3)
  have g := Y3.out.cell 2 rfl
  have f := Y3.out.frozen 2
  have X4 := Lib.hid (Y3.out.put 2 (.string t3))
  have H4 := Lib.hid ((H3.out.trans k3).set (g := w.heap.size + 1) (i := 2) (o := none) (by omega) (.string t3))
  clear k3
  go_wp2
  clear g f
  generalize v3.setCell ⟨w.heap.size + 1, 2, none⟩ (.string t3) = w4 at *
  rw [rounds_succ]
  have hlt := X4.out.lt
  have hcs : ∀ (j : Nat) x, [t1, t2, t3][j]? = some x → w4.cell? ⟨w.heap.size + 1, 0 + j, none⟩ = some (.string x) := by
    intro j x hj
    rw [Nat.zero_add]
    match j, hj with
    | 0, hj => obtain rfl := Option.some.inj hj; exact X4.out.cell 0 rfl
    | 1, hj => obtain rfl := Option.some.inj hj; exact X4.out.cell 1 rfl
    | 2, hj => obtain rfl := Option.some.inj hj; exact X4.out.cell 2 rfl
  have JN := Lib.hid (Try.strings_Join (w.heap.size + 1) 0 3 [t1, t2, t3] ⟨#[32]⟩ w4 hcs hlt (by simp) (by simp) (by
    have := congrArg ByteArray.size (join3 t1 t2 t3)
    have h2 : (t1 ++ ⟨#[32]⟩ ++ t2 ++ ⟨#[32]⟩ ++ t3).size ≤ 140737488355328 := by
      simp only [ByteArray.size_append]
      have : (ByteArray.mk #[32]).size = 1 := rfl
      omega
    rw [← this] at h2
    simpa [ByteArray.size] using h2))
  rw [join3] at JN
  clear hcs
  go_wp2_with fail
  refine JN.out.mono ?_
  rintro e w5 ⟨rfl, k5⟩
  have H5 := Lib.hid (H4.out.trans k5)
  clear k5
  go_wp2
  go_ret
  exact ⟨rfl, H5.out⟩

end Go.Proofs.Ytdpccnpaajhliaa
