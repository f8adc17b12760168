/- What package state's New, Fits, Equal and Clone return, and the reference's. Conditions: images that read as lists of bools, of at most a million. -/
import Derived.Test.YtndapcbjcannhaaS1
import Derived.LoopN
namespace Go.Proofs.Ytndapcbjcannhaa
open Go.RowKit

theorem imEqual_any {w : World} {A B : Option Addr} {m c n d : Nat} {x y : List Bool} (hm : m ≤ 1000000) (hx : Im w A m c x) (hy : Im w B n d y) :
    Calls Try.prog 31 #[.slice A m c, .slice B n d] w fun e w' => e = .returned (.bool (eqB x y)) ∧ Nx w w' :=
  equal_any A B x y m n c d hx.2.1 hy.2.1 hm w hx.1 hy.1
theorem imRefEqual_any {w : World} {A B : Option Addr} {m c n d : Nat} {x y : List Bool} (hm : m ≤ 1000000) (hx : Im w A m c x) (hy : Im w B n d y) :
    Calls Try.prog 30 #[.slice A m c, .slice B n d] w fun e w' => e = .returned (.bool (eqB x y)) ∧ Nx w w' :=
  refEqual_any A B x y m n c d hx.2.1 hy.2.1 hm w hx.1 hy.1

set_option maxHeartbeats 1600000 in
set_option maxRecDepth 100000 in
theorem stEqual_any (A1 A2 A3 : Option Addr) (m1 m2 m3 c1 c2 c3 : Nat) (B1 B2 B3 : Option Addr) (n1 n2 n3 d1 d2 d3 : Nat) (x1 x2 x3 y1 y2 y3 : List Bool) (hm1 : m1 ≤ 1000000) (hm2 : m2 ≤ 1000000) (hm3 : m3 ≤ 1000000) (w : World)
    (hx1 : Im w A1 m1 c1 x1) (hx2 : Im w A2 m2 c2 x2) (hx3 : Im w A3 m3 c3 x3) (hy1 : Im w B1 n1 d1 y1) (hy2 : Im w B2 n2 d2 y2) (hy3 : Im w B3 n3 d3 y3) :
    Calls Try.prog 16 #[.agg #[.slice A1 m1 c1, .slice A2 m2 c2, .slice A3 m3 c3], .agg #[.slice B1 n1 d1, .slice B2 n2 d2, .slice B3 n3 d3]] w fun e w' => e = .returned (.bool (eqB x1 y1 && eqB x2 y2 && eqB x3 y3)) ∧ Nx w w' := by
  have E1 := Lib.hid (fun w' (k : Nx w w') => imEqual_any hm1 (hx1.nx k) (hy1.nx k))
  have E2 := Lib.hid (fun w' (k : Nx w w') => imEqual_any hm2 (hx2.nx k) (hy2.nx k))
  have E3 := Lib.hid (fun w' (k : Nx w w') => imEqual_any hm3 (hx3.nx k) (hy3.nx k))
  generalize eqB x1 y1 = b1 at *
  generalize eqB x2 y2 = b2 at *
  generalize eqB x3 y3 = b3 at *
  clear hx1 hx2 hx3 hy1 hy2 hy3
  have N0 := Lib.hid (show Nx w ((w.alloc (.cells #[.slice A1 m1 c1, .slice A2 m2 c2, .slice A3 m3 c3] 26)).alloc (.cells #[.slice B1 n1 d1, .slice B2 n2 d2, .slice B3 n3 d3] 26)) from (Nx.one _ _).alloc _)
  have XA := Lib.hid ((bx_new w 26 [.slice A1 m1 c1, .slice A2 m2 c2, .slice A3 m3 c3]).nx (Nx.one _ (.cells #[.slice B1 n1 d1, .slice B2 n2 d2, .slice B3 n3 d3] 26)))
  have i0 : ∀ w, (Instr.index 60 (.agg #[.slice A1 m1 c1, .slice A2 m2 c2, .slice A3 m3 c3]) (.int .i64 0)).run Try.prog w = .ok (.slice A1 m1 c1) w := fun _ => by kernel_rfl
  have i1 : ∀ w, (Instr.index 60 (.agg #[.slice A1 m1 c1, .slice A2 m2 c2, .slice A3 m3 c3]) (.int .i64 1)).run Try.prog w = .ok (.slice A2 m2 c2) w := fun _ => by kernel_rfl
  have i2 : ∀ w, (Instr.index 60 (.agg #[.slice A1 m1 c1, .slice A2 m2 c2, .slice A3 m3 c3]) (.int .i64 2)).run Try.prog w = .ok (.slice A3 m3 c3) w := fun _ => by kernel_rfl
  go_enter Try.func16, Try.ntmps16
  go_wp2_with fail
  refine (imagesOf_any _ _ _ _ _ _ _ _ _ _).mono ?_
  rintro e w1 ⟨rfl, h1⟩
  have a1 := (XA.out.nx (h1.alloc (.cells #[.slice B1 n1 d1, .slice B2 n2 d2, .slice B3 n3 d3] 60))).cell 0 rfl
  have a2 := (XA.out.nx (h1.alloc (.cells #[.slice B1 n1 d1, .slice B2 n2 d2, .slice B3 n3 d3] 60))).cell 1 rfl
  have a3 := (XA.out.nx (h1.alloc (.cells #[.slice B1 n1 d1, .slice B2 n2 d2, .slice B3 n3 d3] 60))).cell 2 rfl
  have H1 := Lib.hid (N0.out.trans h1)
  clear h1
  go_wp2_with fail
  refine (imagesOf_any _ _ _ _ _ _ _ _ _ _).mono ?_
  rintro e w2 ⟨rfl, h2⟩
  have XB := Lib.hid ((bx_new w1 60 [.slice B1 n1 d1, .slice B2 n2 d2, .slice B3 n3 d3]).nx h2)
  have g0 := XB.out.cell 0 rfl
  have g1 := XB.out.cell 1 rfl
  have g2 := XB.out.cell 2 rfl
  have H2 := Lib.hid ((H1.out.alloc _).trans h2)
  clear h2 a1 a2 a3
  go_wp2_with fail
  refine wp_loop_rounds 4 ?_
  rw [rounds_succ]
  go_wp2_with fail
  refine (E1.out _ H2.out).mono ?_
  rintro e w3 ⟨rfl, h3⟩
  have XC := Lib.hid (XB.out.nx h3)
  have H3 := Lib.hid (H2.out.trans h3)
  clear h3 g0 g1 g2
  cases b1
  · go_wp2
    go_ret
    exact ⟨rfl, H3.out⟩
  have g1 := XC.out.cell 1 rfl
  have g2 := XC.out.cell 2 rfl
  go_wp2
  rw [rounds_succ]
  go_wp2_with fail
  refine (E2.out _ H3.out).mono ?_
  rintro e w4 ⟨rfl, h4⟩
  have XD := Lib.hid (XC.out.nx h4)
  have H4 := Lib.hid (H3.out.trans h4)
  clear h4 g1 g2
  cases b2
  · go_wp2
    go_ret
    exact ⟨rfl, H4.out⟩
  have g2 := XD.out.cell 2 rfl
  go_wp2
  rw [rounds_succ]
  go_wp2_with fail
  refine (E3.out _ H4.out).mono ?_
  rintro e w5 ⟨rfl, h5⟩
  have H5 := Lib.hid (H4.out.trans h5)
  clear h5 g2
  cases b3
  · go_wp2
    go_ret
    exact ⟨rfl, H5.out⟩
  go_wp2
  rw [rounds_succ]
  go_wp2
  go_ret
  exact ⟨rfl, H5.out⟩
end Go.Proofs.Ytndapcbjcannhaa
