/- The contracts of the program's Run and of alive, as the walks of the laws want them. No condition. -/
import Derived.Test.YtdpccnpaajhliaaMJ
import Derived.Test.YtdpccnpaajhliaaML
import Derived.Test.YtdpccnpaajhliaaIS14
namespace Go.Proofs.Ytdpccnpaajhliaa
open Go.RowKit

theorem vmRunOk : RunOk := fun code inp x1 x2 x3 Ac Ai A1 A2 A3 cc ni ci m1 c1 m2 c2 m3 c3 w hcl hni hm1 hm2 hm3 hc hcn hi h1 h2 h3 =>
  vmRun_any code inp x1 x2 x3 hcl Ac Ai A1 A2 A3 cc ni ci m1 c1 m2 c2 m3 c3 hni hm1 hm2 hm3 w hc hcn hi h1 h2 h3
def aCode : List In4 := [⟨0, 0, 0, 0⟩, ⟨11, 1, 0, 0⟩, ⟨16, 0, 0, 0⟩]
theorem aTxt : stxt [true] [] [] = ⟨#[49, 32, 45, 32, 45]⟩ := by decide
theorem rdC_bx' {w : World} {g : Nat} {T : TypeId} {code : List In4} (h : Bx w g T (ins code)) : RdC w (some ⟨g, 0, none⟩) code := fun k x hk => by
  obtain ⟨h1, h2, h3, h4⟩ := ins_get code k x hk
  refine ⟨_, rfl, ?_, ?_, ?_, ?_⟩
  · rw [Addr.add_lit, Nat.zero_add]; exact h.cell _ h1
  · rw [Addr.add_lit, Nat.zero_add]; exact h.cell _ h2
  · rw [Addr.add_lit, Nat.zero_add]; exact h.cell _ h3
  · rw [Addr.add_lit, Nat.zero_add]; exact h.cell _ h4
theorem im_bx' {w : World} {g c : Nat} {T : TypeId} {xs : List Bool} (h : Bx w g T (bools xs)) : Im w (some ⟨g, 0, none⟩) xs.length c xs :=
  ⟨fun k b hk => ⟨_, rfl, by rw [Addr.add_lit, Nat.zero_add]; exact h.cell _ (by simp [bools, hk])⟩, rfl, fun e => by cases e⟩
theorem im_nil' (w : World) : Im w none 0 0 [] := ⟨fun k b hk => by simp at hk, rfl, fun _ => rfl⟩

set_option maxHeartbeats 3200000 in
set_option maxRecDepth 100000 in
theorem al_ok : AlOk := fun w => by
  have HR := Lib.hid vmRunOk
  have N3 := Lib.hid (show Nx w (((w.alloc (.cells #[.int .i64 0, .int .i64 0, .int .i64 0, .int .i64 0, .int .i64 11, .int .i64 1, .int .i64 0, .int .i64 0, .int .i64 16, .int .i64 0, .int .i64 0, .int .i64 0] 28)).alloc (.cells #[.bool true] 4)).alloc (.cells #[.bool false] 4)) from ((Nx.one _ _).alloc _).alloc _)
  have XC := Lib.hid (((bx_new w 28 [.int .i64 0, .int .i64 0, .int .i64 0, .int .i64 0, .int .i64 11, .int .i64 1, .int .i64 0, .int .i64 0, .int .i64 16, .int .i64 0, .int .i64 0, .int .i64 0]).nx (Nx.one _ (.cells #[.bool true] 4))).nx (Nx.one _ (.cells #[.bool false] 4)))
  have XI := Lib.hid ((bx_new (w.alloc (.cells #[.int .i64 0, .int .i64 0, .int .i64 0, .int .i64 0, .int .i64 11, .int .i64 1, .int .i64 0, .int .i64 0, .int .i64 16, .int .i64 0, .int .i64 0, .int .i64 0] 28)) 4 [.bool true]).nx (Nx.one _ (.cells #[.bool false] 4)))
  have XQ := Lib.hid (bx_new ((w.alloc (.cells #[.int .i64 0, .int .i64 0, .int .i64 0, .int .i64 0, .int .i64 11, .int .i64 1, .int .i64 0, .int .i64 0, .int .i64 16, .int .i64 0, .int .i64 0, .int .i64 0] 28)).alloc (.cells #[.bool true] 4)) 4 [.bool false])
  rw [show (w.alloc (.cells #[.int .i64 0, .int .i64 0, .int .i64 0, .int .i64 0, .int .i64 11, .int .i64 1, .int .i64 0, .int .i64 0, .int .i64 16, .int .i64 0, .int .i64 0, .int .i64 0] 28)).heap.size = w.heap.size + 1 by simp] at XI
  rw [show ((w.alloc (.cells #[.int .i64 0, .int .i64 0, .int .i64 0, .int .i64 0, .int .i64 11, .int .i64 1, .int .i64 0, .int .i64 0, .int .i64 16, .int .i64 0, .int .i64 0, .int .i64 0] 28)).alloc (.cells #[.bool true] 4)).heap.size = w.heap.size + 1 + 1 by simp] at XQ
  go_enter Try.func5, Try.ntmps5
  go_wp2_with fail
  generalize (((w.alloc (.cells #[.int .i64 0, .int .i64 0, .int .i64 0, .int .i64 0, .int .i64 11, .int .i64 1, .int .i64 0, .int .i64 0, .int .i64 16, .int .i64 0, .int .i64 0, .int .i64 0] 28)).alloc (.cells #[.bool true] 4)).alloc (.cells #[.bool false] 4)) = W at *
  refine (HR.out aCode [true] [false] [] [] _ _ _ _ _ 3 1 1 1 1 0 0 0 0 W (by decide) (by decide) (by decide) (by decide) (by decide) (rdC_bx' XC.out) (fun e => by cases e) (im_bx' XI.out) (im_bx' XQ.out) (im_nil' W) (im_nil' W)).mono ?_
  intro e w5 hp
  obtain ⟨B1, B2, B3, d1, d2, d3, rfl, i1, i2, i3, hn⟩ := runPost_cells hp
  have hrun : run aCode [true] (mc0 [false] [] []) 0 = (⟨[true], [], [], 2, true, [], true, 0⟩, 3) := by kernel_rfl
  rw [hrun] at i1 i2 i3 ⊢
  have N5 := Lib.hid (N3.out.trans hn)
  have I1 := Lib.hid i1
  have I2 := Lib.hid i2
  have I3 := Lib.hid i3
  clear hp i1 i2 i3 hn hrun
  simp only [List.length_cons, List.length_nil, Nat.zero_add] at I1 I2 I3 ⊢
  have k5 := Lib.hid (Nx.one w5 (.cells #[.slice B1 1 d1, .slice B2 0 d2, .slice B3 0 d3, .int .i64 3, .int .i64 2, .int .i64 0] 34))
  have HY := Lib.hid (bx_new w5 34 [.slice B1 1 d1, .slice B2 0 d2, .slice B3 0 d3, .int .i64 3, .int .i64 2, .int .i64 0])
  have y0 := HY.out.cell 0 rfl
  have y1 := HY.out.cell 1 rfl
  have y2 := HY.out.cell 2 rfl
  have y3 := HY.out.cell 3 rfl
  have y4 := HY.out.cell 4 rfl
  have y5 := HY.out.cell 5 rfl
  have F := Lib.hid (fun w' (k : Nx w5 w') => stFormat_any B1 B2 B3 1 0 0 d1 d2 d3 [true] [] [] (by decide) (by decide) (by decide) w' (I1.out.nx k) (I2.out.nx k) (I3.out.nx k))
  rw [aTxt] at F
  go_wp2_with fail
  refine (F.out _ k5.out).mono ?_
  rintro e w6 ⟨rfl, hn⟩
  have N6 := Lib.hid (N5.out.trans (k5.out.trans hn))
  clear hn y0 y1 y2 y3 y4 y5
  go_wp2
  go_ret
  exact ⟨rfl, N6.out⟩
end Go.Proofs.Ytdpccnpaajhliaa
