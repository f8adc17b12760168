/- The walk of the law on loads and combinations, the contracts of the program's Run and of alive given. Condition: these. -/
import Derived.Test.YtmijfipggggdfaaML
namespace Go.Proofs.Ytmijfipggggdfaa
open Go.RowKit

theorem rdC_bx {w : World} {g : Nat} {T : TypeId} {code : List In4} (h : Bx w g T (ins code)) : RdC w (some ⟨g, 0, none⟩) code := fun k x hk => by
  obtain ⟨h1, h2, h3, h4⟩ := ins_get code k x hk
  refine ⟨_, rfl, ?_, ?_, ?_, ?_⟩
  · rw [Addr.add_lit, Nat.zero_add]; exact h.cell _ h1
  · rw [Addr.add_lit, Nat.zero_add]; exact h.cell _ h2
  · rw [Addr.add_lit, Nat.zero_add]; exact h.cell _ h3
  · rw [Addr.add_lit, Nat.zero_add]; exact h.cell _ h4
theorem im_bx {w : World} {g c : Nat} {T : TypeId} {xs : List Bool} (h : Bx w g T (bools xs)) : Im w (some ⟨g, 0, none⟩) xs.length c xs :=
  ⟨fun k b hk => ⟨_, rfl, by rw [Addr.add_lit, Nat.zero_add]; exact h.cell _ (by simp [bools, hk])⟩, rfl, fun e => by cases e⟩
theorem im_nil (w : World) : Im w none 0 0 [] := ⟨fun k b hk => by simp at hk, rfl, fun _ => rfl⟩
theorem make2 (w : World) : (Instr.makeSlice 23 (.int .i64 2) (.int .i64 2)).run Try.prog w = .ok (.slice (some ⟨w.heap.size, 0, none⟩) 2 2) (w.alloc (.cells #[.bool false, .bool false] 4)) := by kernel_rfl

set_option maxHeartbeats 3200000 in
set_option maxRecDepth 100000 in
theorem law6_bool_0tt (hR : RunOk) (hA : AlOk) (o : Int) (hk : o.tmod 6 = 0) (w : World) :
    Calls Try.prog 7 #[.bool true, .bool true, .int .u8 o] w fun e w' => e = .returned (.bool true) ∧ Nx w w' := by
  have HA := Lib.hid hA
  have HR := Lib.hid hR
  have hmk := make2
  have N4 := Lib.hid (show Nx w ((((w.alloc (.cells #[.bool true, .bool true, .bool true] 4)).alloc (.cells #[.bool true, .bool true] 4)).alloc (.cells #[.int .i64 0, .int .i64 0, .int .i64 0, .int .i64 0, .int .i64 0, .int .i64 0, .int .i64 1, .int .i64 0, .int .i64 11, .int .i64 1, .int .i64 0, .int .i64 0, .int .i64 12, .int .i64 1, .int .i64 1, .int .i64 0, .int .i64 16, .int .i64 0, .int .i64 0, .int .i64 0] 53)).alloc (.cells #[.bool false, .bool false] 4)) from (((Nx.one _ _).alloc _).alloc _).alloc _)
  have XI := Lib.hid (((bx_new (w.alloc (.cells #[.bool true, .bool true, .bool true] 4)) 4 [.bool true, .bool true]).nx (Nx.one _ (.cells #[.int .i64 0, .int .i64 0, .int .i64 0, .int .i64 0, .int .i64 0, .int .i64 0, .int .i64 1, .int .i64 0, .int .i64 11, .int .i64 1, .int .i64 0, .int .i64 0, .int .i64 12, .int .i64 1, .int .i64 1, .int .i64 0, .int .i64 16, .int .i64 0, .int .i64 0, .int .i64 0] 53))).nx (Nx.one _ (.cells #[.bool false, .bool false] 4)))
  have XC := Lib.hid ((bx_new ((w.alloc (.cells #[.bool true, .bool true, .bool true] 4)).alloc (.cells #[.bool true, .bool true] 4)) 53 [.int .i64 0, .int .i64 0, .int .i64 0, .int .i64 0, .int .i64 0, .int .i64 0, .int .i64 1, .int .i64 0, .int .i64 11, .int .i64 1, .int .i64 0, .int .i64 0, .int .i64 12, .int .i64 1, .int .i64 1, .int .i64 0, .int .i64 16, .int .i64 0, .int .i64 0, .int .i64 0]).nx (Nx.one _ (.cells #[.bool false, .bool false] 4)))
  have XQ := Lib.hid (bx_new (((w.alloc (.cells #[.bool true, .bool true, .bool true] 4)).alloc (.cells #[.bool true, .bool true] 4)).alloc (.cells #[.int .i64 0, .int .i64 0, .int .i64 0, .int .i64 0, .int .i64 0, .int .i64 0, .int .i64 1, .int .i64 0, .int .i64 11, .int .i64 1, .int .i64 0, .int .i64 0, .int .i64 12, .int .i64 1, .int .i64 1, .int .i64 0, .int .i64 16, .int .i64 0, .int .i64 0, .int .i64 0] 53)) 4 [.bool false, .bool false])
  rw [show (w.alloc (.cells #[.bool true, .bool true, .bool true] 4)).heap.size = w.heap.size + 1 by simp] at XI
  rw [show ((w.alloc (.cells #[.bool true, .bool true, .bool true] 4)).alloc (.cells #[.bool true, .bool true] 4)).heap.size = w.heap.size + 1 + 1 by simp] at XC
  rw [show (((w.alloc (.cells #[.bool true, .bool true, .bool true] 4)).alloc (.cells #[.bool true, .bool true] 4)).alloc (.cells #[.int .i64 0, .int .i64 0, .int .i64 0, .int .i64 0, .int .i64 0, .int .i64 0, .int .i64 1, .int .i64 0, .int .i64 11, .int .i64 1, .int .i64 0, .int .i64 0, .int .i64 12, .int .i64 1, .int .i64 1, .int .i64 0, .int .i64 16, .int .i64 0, .int .i64 0, .int .i64 0] 53)).heap.size = w.heap.size + 1 + 1 + 1 by simp] at XQ
  clear hA hR
  go_enter Try.func7, Try.ntmps7
  go_wp2_with fail
  clear hmk
  generalize ((((w.alloc (.cells #[.bool true, .bool true, .bool true] 4)).alloc (.cells #[.bool true, .bool true] 4)).alloc (.cells #[.int .i64 0, .int .i64 0, .int .i64 0, .int .i64 0, .int .i64 0, .int .i64 0, .int .i64 1, .int .i64 0, .int .i64 11, .int .i64 1, .int .i64 0, .int .i64 0, .int .i64 12, .int .i64 1, .int .i64 1, .int .i64 0, .int .i64 16, .int .i64 0, .int .i64 0, .int .i64 0] 53)).alloc (.cells #[.bool false, .bool false] 4)) = W at *
  refine (HR.out (boolCode 0) [true, true] [false, false] [] [] _ _ _ _ _ 5 2 2 2 2 0 0 0 0 W (by decide) (by decide) (by decide) (by decide) (by decide) (rdC_bx XC.out) (fun e => by cases e) (im_bx XI.out) (im_bx XQ.out) (im_nil W) (im_nil W)).mono ?_
  intro e w5 hp
  obtain ⟨B1, B2, B3, d1, d2, d3, rfl, i1, i2, i3, hn⟩ := runPost_cells hp
  have hrun : run (boolCode 0) [true, true] (mc0 [false, false] [] []) 0 = (⟨[true, false], [], [], 4, true, [], true, 0⟩, 5) := by kernel_rfl
  rw [hrun] at i1 ⊢
  obtain ⟨ad, e0, g0⟩ := i1.1 0 true rfl
  obtain ⟨ad', e1, g1⟩ := i1.1 1 false rfl
  subst e0
  obtain rfl := Option.some.inj e1
  have N5 := Lib.hid (N4.out.trans hn)
  have G0 := Lib.hid g0
  have G1 := Lib.hid g1
  clear hp i1 i2 i3 hn hrun g0 g1 e1
  simp only [List.length_cons, List.length_nil, Nat.zero_add, Nat.reduceAdd]
  go_wp2_with fail
  have k5 := Lib.hid (Nx.one w5 (.cells #[.slice (some ad) 2 d1, .slice B2 0 d2, .slice B3 0 d3, .int .i64 5, .int .i64 4, .int .i64 0] 30))
  have HY := Lib.hid (bx_new w5 30 [.slice (some ad) 2 d1, .slice B2 0 d2, .slice B3 0 d3, .int .i64 5, .int .i64 4, .int .i64 0])
  generalize w5.alloc (.cells #[.slice (some ad) 2 d1, .slice B2 0 d2, .slice B3 0 d3, .int .i64 5, .int .i64 4, .int .i64 0] 30) = W6 at *
  refine (HA.out W6).mono ?_
  rintro e w7 ⟨rfl, hn⟩
  have k7 := Lib.hid (k5.out.trans hn)
  have N7 := Lib.hid (N5.out.trans k7.out)
  have u0 := (HY.out.nx hn).cell 0 rfl
  have u5 := (HY.out.nx hn).cell 5 rfl
  have c0 := k7.out.cell G0.out
  rw [Addr.add_zero'] at c0
  have c1 : w7.cell? ⟨ad.block, ad.off + 1, none⟩ = _ := (congrArg w7.cell? (Addr.add_succ' ad 0)).symm.trans (k7.out.cell G1.out)
  clear hn k5 HY
  go_wp2_with fail
  go_ret
  exact ⟨rfl, N7.out⟩

set_option maxHeartbeats 3200000 in
set_option maxRecDepth 100000 in
theorem law6_bool_0tf (hR : RunOk) (hA : AlOk) (o : Int) (hk : o.tmod 6 = 0) (w : World) :
    Calls Try.prog 7 #[.bool true, .bool false, .int .u8 o] w fun e w' => e = .returned (.bool true) ∧ Nx w w' := by
  have HA := Lib.hid hA
  have HR := Lib.hid hR
  have hmk := make2
  have N4 := Lib.hid (show Nx w ((((w.alloc (.cells #[.bool false, .bool false, .bool true] 4)).alloc (.cells #[.bool true, .bool false] 4)).alloc (.cells #[.int .i64 0, .int .i64 0, .int .i64 0, .int .i64 0, .int .i64 0, .int .i64 0, .int .i64 1, .int .i64 0, .int .i64 11, .int .i64 1, .int .i64 0, .int .i64 0, .int .i64 12, .int .i64 1, .int .i64 1, .int .i64 0, .int .i64 16, .int .i64 0, .int .i64 0, .int .i64 0] 53)).alloc (.cells #[.bool false, .bool false] 4)) from (((Nx.one _ _).alloc _).alloc _).alloc _)
  have XI := Lib.hid (((bx_new (w.alloc (.cells #[.bool false, .bool false, .bool true] 4)) 4 [.bool true, .bool false]).nx (Nx.one _ (.cells #[.int .i64 0, .int .i64 0, .int .i64 0, .int .i64 0, .int .i64 0, .int .i64 0, .int .i64 1, .int .i64 0, .int .i64 11, .int .i64 1, .int .i64 0, .int .i64 0, .int .i64 12, .int .i64 1, .int .i64 1, .int .i64 0, .int .i64 16, .int .i64 0, .int .i64 0, .int .i64 0] 53))).nx (Nx.one _ (.cells #[.bool false, .bool false] 4)))
  have XC := Lib.hid ((bx_new ((w.alloc (.cells #[.bool false, .bool false, .bool true] 4)).alloc (.cells #[.bool true, .bool false] 4)) 53 [.int .i64 0, .int .i64 0, .int .i64 0, .int .i64 0, .int .i64 0, .int .i64 0, .int .i64 1, .int .i64 0, .int .i64 11, .int .i64 1, .int .i64 0, .int .i64 0, .int .i64 12, .int .i64 1, .int .i64 1, .int .i64 0, .int .i64 16, .int .i64 0, .int .i64 0, .int .i64 0]).nx (Nx.one _ (.cells #[.bool false, .bool false] 4)))
  have XQ := Lib.hid (bx_new (((w.alloc (.cells #[.bool false, .bool false, .bool true] 4)).alloc (.cells #[.bool true, .bool false] 4)).alloc (.cells #[.int .i64 0, .int .i64 0, .int .i64 0, .int .i64 0, .int .i64 0, .int .i64 0, .int .i64 1, .int .i64 0, .int .i64 11, .int .i64 1, .int .i64 0, .int .i64 0, .int .i64 12, .int .i64 1, .int .i64 1, .int .i64 0, .int .i64 16, .int .i64 0, .int .i64 0, .int .i64 0] 53)) 4 [.bool false, .bool false])
  rw [show (w.alloc (.cells #[.bool false, .bool false, .bool true] 4)).heap.size = w.heap.size + 1 by simp] at XI
  rw [show ((w.alloc (.cells #[.bool false, .bool false, .bool true] 4)).alloc (.cells #[.bool true, .bool false] 4)).heap.size = w.heap.size + 1 + 1 by simp] at XC
  rw [show (((w.alloc (.cells #[.bool false, .bool false, .bool true] 4)).alloc (.cells #[.bool true, .bool false] 4)).alloc (.cells #[.int .i64 0, .int .i64 0, .int .i64 0, .int .i64 0, .int .i64 0, .int .i64 0, .int .i64 1, .int .i64 0, .int .i64 11, .int .i64 1, .int .i64 0, .int .i64 0, .int .i64 12, .int .i64 1, .int .i64 1, .int .i64 0, .int .i64 16, .int .i64 0, .int .i64 0, .int .i64 0] 53)).heap.size = w.heap.size + 1 + 1 + 1 by simp] at XQ
  clear hA hR
  go_enter Try.func7, Try.ntmps7
  go_wp2_with fail
  clear hmk
  generalize ((((w.alloc (.cells #[.bool false, .bool false, .bool true] 4)).alloc (.cells #[.bool true, .bool false] 4)).alloc (.cells #[.int .i64 0, .int .i64 0, .int .i64 0, .int .i64 0, .int .i64 0, .int .i64 0, .int .i64 1, .int .i64 0, .int .i64 11, .int .i64 1, .int .i64 0, .int .i64 0, .int .i64 12, .int .i64 1, .int .i64 1, .int .i64 0, .int .i64 16, .int .i64 0, .int .i64 0, .int .i64 0] 53)).alloc (.cells #[.bool false, .bool false] 4)) = W at *
  refine (HR.out (boolCode 0) [true, false] [false, false] [] [] _ _ _ _ _ 5 2 2 2 2 0 0 0 0 W (by decide) (by decide) (by decide) (by decide) (by decide) (rdC_bx XC.out) (fun e => by cases e) (im_bx XI.out) (im_bx XQ.out) (im_nil W) (im_nil W)).mono ?_
  intro e w5 hp
  obtain ⟨B1, B2, B3, d1, d2, d3, rfl, i1, i2, i3, hn⟩ := runPost_cells hp
  have hrun : run (boolCode 0) [true, false] (mc0 [false, false] [] []) 0 = (⟨[false, true], [], [], 4, false, [], true, 0⟩, 5) := by kernel_rfl
  rw [hrun] at i1 ⊢
  obtain ⟨ad, e0, g0⟩ := i1.1 0 false rfl
  obtain ⟨ad', e1, g1⟩ := i1.1 1 true rfl
  subst e0
  obtain rfl := Option.some.inj e1
  have N5 := Lib.hid (N4.out.trans hn)
  have G0 := Lib.hid g0
  have G1 := Lib.hid g1
  clear hp i1 i2 i3 hn hrun g0 g1 e1
  simp only [List.length_cons, List.length_nil, Nat.zero_add, Nat.reduceAdd]
  go_wp2_with fail
  have k5 := Lib.hid (Nx.one w5 (.cells #[.slice (some ad) 2 d1, .slice B2 0 d2, .slice B3 0 d3, .int .i64 5, .int .i64 4, .int .i64 0] 30))
  have HY := Lib.hid (bx_new w5 30 [.slice (some ad) 2 d1, .slice B2 0 d2, .slice B3 0 d3, .int .i64 5, .int .i64 4, .int .i64 0])
  generalize w5.alloc (.cells #[.slice (some ad) 2 d1, .slice B2 0 d2, .slice B3 0 d3, .int .i64 5, .int .i64 4, .int .i64 0] 30) = W6 at *
  refine (HA.out W6).mono ?_
  rintro e w7 ⟨rfl, hn⟩
  have k7 := Lib.hid (k5.out.trans hn)
  have N7 := Lib.hid (N5.out.trans k7.out)
  have u0 := (HY.out.nx hn).cell 0 rfl
  have u5 := (HY.out.nx hn).cell 5 rfl
  have c0 := k7.out.cell G0.out
  rw [Addr.add_zero'] at c0
  have c1 : w7.cell? ⟨ad.block, ad.off + 1, none⟩ = _ := (congrArg w7.cell? (Addr.add_succ' ad 0)).symm.trans (k7.out.cell G1.out)
  clear hn k5 HY
  go_wp2_with fail
  go_ret
  exact ⟨rfl, N7.out⟩

set_option maxHeartbeats 3200000 in
set_option maxRecDepth 100000 in
theorem law6_bool_0ft (hR : RunOk) (hA : AlOk) (o : Int) (hk : o.tmod 6 = 0) (w : World) :
    Calls Try.prog 7 #[.bool false, .bool true, .int .u8 o] w fun e w' => e = .returned (.bool true) ∧ Nx w w' := by
  have HA := Lib.hid hA
  have HR := Lib.hid hR
  have hmk := make2
  have N4 := Lib.hid (show Nx w ((((w.alloc (.cells #[.bool true, .bool false, .bool true] 4)).alloc (.cells #[.bool false, .bool true] 4)).alloc (.cells #[.int .i64 0, .int .i64 0, .int .i64 0, .int .i64 0, .int .i64 0, .int .i64 0, .int .i64 1, .int .i64 0, .int .i64 11, .int .i64 1, .int .i64 0, .int .i64 0, .int .i64 12, .int .i64 1, .int .i64 1, .int .i64 0, .int .i64 16, .int .i64 0, .int .i64 0, .int .i64 0] 53)).alloc (.cells #[.bool false, .bool false] 4)) from (((Nx.one _ _).alloc _).alloc _).alloc _)
  have XI := Lib.hid (((bx_new (w.alloc (.cells #[.bool true, .bool false, .bool true] 4)) 4 [.bool false, .bool true]).nx (Nx.one _ (.cells #[.int .i64 0, .int .i64 0, .int .i64 0, .int .i64 0, .int .i64 0, .int .i64 0, .int .i64 1, .int .i64 0, .int .i64 11, .int .i64 1, .int .i64 0, .int .i64 0, .int .i64 12, .int .i64 1, .int .i64 1, .int .i64 0, .int .i64 16, .int .i64 0, .int .i64 0, .int .i64 0] 53))).nx (Nx.one _ (.cells #[.bool false, .bool false] 4)))
  have XC := Lib.hid ((bx_new ((w.alloc (.cells #[.bool true, .bool false, .bool true] 4)).alloc (.cells #[.bool false, .bool true] 4)) 53 [.int .i64 0, .int .i64 0, .int .i64 0, .int .i64 0, .int .i64 0, .int .i64 0, .int .i64 1, .int .i64 0, .int .i64 11, .int .i64 1, .int .i64 0, .int .i64 0, .int .i64 12, .int .i64 1, .int .i64 1, .int .i64 0, .int .i64 16, .int .i64 0, .int .i64 0, .int .i64 0]).nx (Nx.one _ (.cells #[.bool false, .bool false] 4)))
  have XQ := Lib.hid (bx_new (((w.alloc (.cells #[.bool true, .bool false, .bool true] 4)).alloc (.cells #[.bool false, .bool true] 4)).alloc (.cells #[.int .i64 0, .int .i64 0, .int .i64 0, .int .i64 0, .int .i64 0, .int .i64 0, .int .i64 1, .int .i64 0, .int .i64 11, .int .i64 1, .int .i64 0, .int .i64 0, .int .i64 12, .int .i64 1, .int .i64 1, .int .i64 0, .int .i64 16, .int .i64 0, .int .i64 0, .int .i64 0] 53)) 4 [.bool false, .bool false])
  rw [show (w.alloc (.cells #[.bool true, .bool false, .bool true] 4)).heap.size = w.heap.size + 1 by simp] at XI
  rw [show ((w.alloc (.cells #[.bool true, .bool false, .bool true] 4)).alloc (.cells #[.bool false, .bool true] 4)).heap.size = w.heap.size + 1 + 1 by simp] at XC
  rw [show (((w.alloc (.cells #[.bool true, .bool false, .bool true] 4)).alloc (.cells #[.bool false, .bool true] 4)).alloc (.cells #[.int .i64 0, .int .i64 0, .int .i64 0, .int .i64 0, .int .i64 0, .int .i64 0, .int .i64 1, .int .i64 0, .int .i64 11, .int .i64 1, .int .i64 0, .int .i64 0, .int .i64 12, .int .i64 1, .int .i64 1, .int .i64 0, .int .i64 16, .int .i64 0, .int .i64 0, .int .i64 0] 53)).heap.size = w.heap.size + 1 + 1 + 1 by simp] at XQ
  clear hA hR
  go_enter Try.func7, Try.ntmps7
  go_wp2_with fail
  clear hmk
  generalize ((((w.alloc (.cells #[.bool true, .bool false, .bool true] 4)).alloc (.cells #[.bool false, .bool true] 4)).alloc (.cells #[.int .i64 0, .int .i64 0, .int .i64 0, .int .i64 0, .int .i64 0, .int .i64 0, .int .i64 1, .int .i64 0, .int .i64 11, .int .i64 1, .int .i64 0, .int .i64 0, .int .i64 12, .int .i64 1, .int .i64 1, .int .i64 0, .int .i64 16, .int .i64 0, .int .i64 0, .int .i64 0] 53)).alloc (.cells #[.bool false, .bool false] 4)) = W at *
  refine (HR.out (boolCode 0) [false, true] [false, false] [] [] _ _ _ _ _ 5 2 2 2 2 0 0 0 0 W (by decide) (by decide) (by decide) (by decide) (by decide) (rdC_bx XC.out) (fun e => by cases e) (im_bx XI.out) (im_bx XQ.out) (im_nil W) (im_nil W)).mono ?_
  intro e w5 hp
  obtain ⟨B1, B2, B3, d1, d2, d3, rfl, i1, i2, i3, hn⟩ := runPost_cells hp
  have hrun : run (boolCode 0) [false, true] (mc0 [false, false] [] []) 0 = (⟨[true, false], [], [], 4, true, [], true, 0⟩, 5) := by kernel_rfl
  rw [hrun] at i1 ⊢
  obtain ⟨ad, e0, g0⟩ := i1.1 0 true rfl
  obtain ⟨ad', e1, g1⟩ := i1.1 1 false rfl
  subst e0
  obtain rfl := Option.some.inj e1
  have N5 := Lib.hid (N4.out.trans hn)
  have G0 := Lib.hid g0
  have G1 := Lib.hid g1
  clear hp i1 i2 i3 hn hrun g0 g1 e1
  simp only [List.length_cons, List.length_nil, Nat.zero_add, Nat.reduceAdd]
  go_wp2_with fail
  have k5 := Lib.hid (Nx.one w5 (.cells #[.slice (some ad) 2 d1, .slice B2 0 d2, .slice B3 0 d3, .int .i64 5, .int .i64 4, .int .i64 0] 30))
  have HY := Lib.hid (bx_new w5 30 [.slice (some ad) 2 d1, .slice B2 0 d2, .slice B3 0 d3, .int .i64 5, .int .i64 4, .int .i64 0])
  generalize w5.alloc (.cells #[.slice (some ad) 2 d1, .slice B2 0 d2, .slice B3 0 d3, .int .i64 5, .int .i64 4, .int .i64 0] 30) = W6 at *
  refine (HA.out W6).mono ?_
  rintro e w7 ⟨rfl, hn⟩
  have k7 := Lib.hid (k5.out.trans hn)
  have N7 := Lib.hid (N5.out.trans k7.out)
  have u0 := (HY.out.nx hn).cell 0 rfl
  have u5 := (HY.out.nx hn).cell 5 rfl
  have c0 := k7.out.cell G0.out
  rw [Addr.add_zero'] at c0
  have c1 : w7.cell? ⟨ad.block, ad.off + 1, none⟩ = _ := (congrArg w7.cell? (Addr.add_succ' ad 0)).symm.trans (k7.out.cell G1.out)
  clear hn k5 HY
  go_wp2_with fail
  go_ret
  exact ⟨rfl, N7.out⟩

set_option maxHeartbeats 3200000 in
set_option maxRecDepth 100000 in
theorem law6_bool_0ff (hR : RunOk) (hA : AlOk) (o : Int) (hk : o.tmod 6 = 0) (w : World) :
    Calls Try.prog 7 #[.bool false, .bool false, .int .u8 o] w fun e w' => e = .returned (.bool true) ∧ Nx w w' := by
  have HA := Lib.hid hA
  have HR := Lib.hid hR
  have hmk := make2
  have N4 := Lib.hid (show Nx w ((((w.alloc (.cells #[.bool false, .bool false, .bool false] 4)).alloc (.cells #[.bool false, .bool false] 4)).alloc (.cells #[.int .i64 0, .int .i64 0, .int .i64 0, .int .i64 0, .int .i64 0, .int .i64 0, .int .i64 1, .int .i64 0, .int .i64 11, .int .i64 1, .int .i64 0, .int .i64 0, .int .i64 12, .int .i64 1, .int .i64 1, .int .i64 0, .int .i64 16, .int .i64 0, .int .i64 0, .int .i64 0] 53)).alloc (.cells #[.bool false, .bool false] 4)) from (((Nx.one _ _).alloc _).alloc _).alloc _)
  have XI := Lib.hid (((bx_new (w.alloc (.cells #[.bool false, .bool false, .bool false] 4)) 4 [.bool false, .bool false]).nx (Nx.one _ (.cells #[.int .i64 0, .int .i64 0, .int .i64 0, .int .i64 0, .int .i64 0, .int .i64 0, .int .i64 1, .int .i64 0, .int .i64 11, .int .i64 1, .int .i64 0, .int .i64 0, .int .i64 12, .int .i64 1, .int .i64 1, .int .i64 0, .int .i64 16, .int .i64 0, .int .i64 0, .int .i64 0] 53))).nx (Nx.one _ (.cells #[.bool false, .bool false] 4)))
  have XC := Lib.hid ((bx_new ((w.alloc (.cells #[.bool false, .bool false, .bool false] 4)).alloc (.cells #[.bool false, .bool false] 4)) 53 [.int .i64 0, .int .i64 0, .int .i64 0, .int .i64 0, .int .i64 0, .int .i64 0, .int .i64 1, .int .i64 0, .int .i64 11, .int .i64 1, .int .i64 0, .int .i64 0, .int .i64 12, .int .i64 1, .int .i64 1, .int .i64 0, .int .i64 16, .int .i64 0, .int .i64 0, .int .i64 0]).nx (Nx.one _ (.cells #[.bool false, .bool false] 4)))
  have XQ := Lib.hid (bx_new (((w.alloc (.cells #[.bool false, .bool false, .bool false] 4)).alloc (.cells #[.bool false, .bool false] 4)).alloc (.cells #[.int .i64 0, .int .i64 0, .int .i64 0, .int .i64 0, .int .i64 0, .int .i64 0, .int .i64 1, .int .i64 0, .int .i64 11, .int .i64 1, .int .i64 0, .int .i64 0, .int .i64 12, .int .i64 1, .int .i64 1, .int .i64 0, .int .i64 16, .int .i64 0, .int .i64 0, .int .i64 0] 53)) 4 [.bool false, .bool false])
  rw [show (w.alloc (.cells #[.bool false, .bool false, .bool false] 4)).heap.size = w.heap.size + 1 by simp] at XI
  rw [show ((w.alloc (.cells #[.bool false, .bool false, .bool false] 4)).alloc (.cells #[.bool false, .bool false] 4)).heap.size = w.heap.size + 1 + 1 by simp] at XC
  rw [show (((w.alloc (.cells #[.bool false, .bool false, .bool false] 4)).alloc (.cells #[.bool false, .bool false] 4)).alloc (.cells #[.int .i64 0, .int .i64 0, .int .i64 0, .int .i64 0, .int .i64 0, .int .i64 0, .int .i64 1, .int .i64 0, .int .i64 11, .int .i64 1, .int .i64 0, .int .i64 0, .int .i64 12, .int .i64 1, .int .i64 1, .int .i64 0, .int .i64 16, .int .i64 0, .int .i64 0, .int .i64 0] 53)).heap.size = w.heap.size + 1 + 1 + 1 by simp] at XQ
  clear hA hR
  go_enter Try.func7, Try.ntmps7
  go_wp2_with fail
  clear hmk
  generalize ((((w.alloc (.cells #[.bool false, .bool false, .bool false] 4)).alloc (.cells #[.bool false, .bool false] 4)).alloc (.cells #[.int .i64 0, .int .i64 0, .int .i64 0, .int .i64 0, .int .i64 0, .int .i64 0, .int .i64 1, .int .i64 0, .int .i64 11, .int .i64 1, .int .i64 0, .int .i64 0, .int .i64 12, .int .i64 1, .int .i64 1, .int .i64 0, .int .i64 16, .int .i64 0, .int .i64 0, .int .i64 0] 53)).alloc (.cells #[.bool false, .bool false] 4)) = W at *
  refine (HR.out (boolCode 0) [false, false] [false, false] [] [] _ _ _ _ _ 5 2 2 2 2 0 0 0 0 W (by decide) (by decide) (by decide) (by decide) (by decide) (rdC_bx XC.out) (fun e => by cases e) (im_bx XI.out) (im_bx XQ.out) (im_nil W) (im_nil W)).mono ?_
  intro e w5 hp
  obtain ⟨B1, B2, B3, d1, d2, d3, rfl, i1, i2, i3, hn⟩ := runPost_cells hp
  have hrun : run (boolCode 0) [false, false] (mc0 [false, false] [] []) 0 = (⟨[false, true], [], [], 4, false, [], true, 0⟩, 5) := by kernel_rfl
  rw [hrun] at i1 ⊢
  obtain ⟨ad, e0, g0⟩ := i1.1 0 false rfl
  obtain ⟨ad', e1, g1⟩ := i1.1 1 true rfl
  subst e0
  obtain rfl := Option.some.inj e1
  have N5 := Lib.hid (N4.out.trans hn)
  have G0 := Lib.hid g0
  have G1 := Lib.hid g1
  clear hp i1 i2 i3 hn hrun g0 g1 e1
  simp only [List.length_cons, List.length_nil, Nat.zero_add, Nat.reduceAdd]
  go_wp2_with fail
  have k5 := Lib.hid (Nx.one w5 (.cells #[.slice (some ad) 2 d1, .slice B2 0 d2, .slice B3 0 d3, .int .i64 5, .int .i64 4, .int .i64 0] 30))
  have HY := Lib.hid (bx_new w5 30 [.slice (some ad) 2 d1, .slice B2 0 d2, .slice B3 0 d3, .int .i64 5, .int .i64 4, .int .i64 0])
  generalize w5.alloc (.cells #[.slice (some ad) 2 d1, .slice B2 0 d2, .slice B3 0 d3, .int .i64 5, .int .i64 4, .int .i64 0] 30) = W6 at *
  refine (HA.out W6).mono ?_
  rintro e w7 ⟨rfl, hn⟩
  have k7 := Lib.hid (k5.out.trans hn)
  have N7 := Lib.hid (N5.out.trans k7.out)
  have u0 := (HY.out.nx hn).cell 0 rfl
  have u5 := (HY.out.nx hn).cell 5 rfl
  have c0 := k7.out.cell G0.out
  rw [Addr.add_zero'] at c0
  have c1 : w7.cell? ⟨ad.block, ad.off + 1, none⟩ = _ := (congrArg w7.cell? (Addr.add_succ' ad 0)).symm.trans (k7.out.cell G1.out)
  clear hn k5 HY
  go_wp2_with fail
  go_ret
  exact ⟨rfl, N7.out⟩

set_option maxHeartbeats 3200000 in
set_option maxRecDepth 100000 in
theorem law6_bool_1tt (hR : RunOk) (hA : AlOk) (o : Int) (hk : o.tmod 6 = 1) (w : World) :
    Calls Try.prog 7 #[.bool true, .bool true, .int .u8 o] w fun e w' => e = .returned (.bool true) ∧ Nx w w' := by
  have HA := Lib.hid hA
  have HR := Lib.hid hR
  have hmk := make2
  have N4 := Lib.hid (show Nx w ((((w.alloc (.cells #[.bool false, .bool false, .bool true] 4)).alloc (.cells #[.bool true, .bool true] 4)).alloc (.cells #[.int .i64 0, .int .i64 0, .int .i64 0, .int .i64 0, .int .i64 1, .int .i64 0, .int .i64 1, .int .i64 0, .int .i64 11, .int .i64 1, .int .i64 0, .int .i64 0, .int .i64 12, .int .i64 1, .int .i64 1, .int .i64 0, .int .i64 16, .int .i64 0, .int .i64 0, .int .i64 0] 53)).alloc (.cells #[.bool false, .bool false] 4)) from (((Nx.one _ _).alloc _).alloc _).alloc _)
  have XI := Lib.hid (((bx_new (w.alloc (.cells #[.bool false, .bool false, .bool true] 4)) 4 [.bool true, .bool true]).nx (Nx.one _ (.cells #[.int .i64 0, .int .i64 0, .int .i64 0, .int .i64 0, .int .i64 1, .int .i64 0, .int .i64 1, .int .i64 0, .int .i64 11, .int .i64 1, .int .i64 0, .int .i64 0, .int .i64 12, .int .i64 1, .int .i64 1, .int .i64 0, .int .i64 16, .int .i64 0, .int .i64 0, .int .i64 0] 53))).nx (Nx.one _ (.cells #[.bool false, .bool false] 4)))
  have XC := Lib.hid ((bx_new ((w.alloc (.cells #[.bool false, .bool false, .bool true] 4)).alloc (.cells #[.bool true, .bool true] 4)) 53 [.int .i64 0, .int .i64 0, .int .i64 0, .int .i64 0, .int .i64 1, .int .i64 0, .int .i64 1, .int .i64 0, .int .i64 11, .int .i64 1, .int .i64 0, .int .i64 0, .int .i64 12, .int .i64 1, .int .i64 1, .int .i64 0, .int .i64 16, .int .i64 0, .int .i64 0, .int .i64 0]).nx (Nx.one _ (.cells #[.bool false, .bool false] 4)))
  have XQ := Lib.hid (bx_new (((w.alloc (.cells #[.bool false, .bool false, .bool true] 4)).alloc (.cells #[.bool true, .bool true] 4)).alloc (.cells #[.int .i64 0, .int .i64 0, .int .i64 0, .int .i64 0, .int .i64 1, .int .i64 0, .int .i64 1, .int .i64 0, .int .i64 11, .int .i64 1, .int .i64 0, .int .i64 0, .int .i64 12, .int .i64 1, .int .i64 1, .int .i64 0, .int .i64 16, .int .i64 0, .int .i64 0, .int .i64 0] 53)) 4 [.bool false, .bool false])
  rw [show (w.alloc (.cells #[.bool false, .bool false, .bool true] 4)).heap.size = w.heap.size + 1 by simp] at XI
  rw [show ((w.alloc (.cells #[.bool false, .bool false, .bool true] 4)).alloc (.cells #[.bool true, .bool true] 4)).heap.size = w.heap.size + 1 + 1 by simp] at XC
  rw [show (((w.alloc (.cells #[.bool false, .bool false, .bool true] 4)).alloc (.cells #[.bool true, .bool true] 4)).alloc (.cells #[.int .i64 0, .int .i64 0, .int .i64 0, .int .i64 0, .int .i64 1, .int .i64 0, .int .i64 1, .int .i64 0, .int .i64 11, .int .i64 1, .int .i64 0, .int .i64 0, .int .i64 12, .int .i64 1, .int .i64 1, .int .i64 0, .int .i64 16, .int .i64 0, .int .i64 0, .int .i64 0] 53)).heap.size = w.heap.size + 1 + 1 + 1 by simp] at XQ
  clear hA hR
  go_enter Try.func7, Try.ntmps7
  go_wp2_with fail
  clear hmk
  generalize ((((w.alloc (.cells #[.bool false, .bool false, .bool true] 4)).alloc (.cells #[.bool true, .bool true] 4)).alloc (.cells #[.int .i64 0, .int .i64 0, .int .i64 0, .int .i64 0, .int .i64 1, .int .i64 0, .int .i64 1, .int .i64 0, .int .i64 11, .int .i64 1, .int .i64 0, .int .i64 0, .int .i64 12, .int .i64 1, .int .i64 1, .int .i64 0, .int .i64 16, .int .i64 0, .int .i64 0, .int .i64 0] 53)).alloc (.cells #[.bool false, .bool false] 4)) = W at *
  refine (HR.out (boolCode 1) [true, true] [false, false] [] [] _ _ _ _ _ 5 2 2 2 2 0 0 0 0 W (by decide) (by decide) (by decide) (by decide) (by decide) (rdC_bx XC.out) (fun e => by cases e) (im_bx XI.out) (im_bx XQ.out) (im_nil W) (im_nil W)).mono ?_
  intro e w5 hp
  obtain ⟨B1, B2, B3, d1, d2, d3, rfl, i1, i2, i3, hn⟩ := runPost_cells hp
  have hrun : run (boolCode 1) [true, true] (mc0 [false, false] [] []) 0 = (⟨[false, true], [], [], 4, false, [], true, 0⟩, 5) := by kernel_rfl
  rw [hrun] at i1 ⊢
  obtain ⟨ad, e0, g0⟩ := i1.1 0 false rfl
  obtain ⟨ad', e1, g1⟩ := i1.1 1 true rfl
  subst e0
  obtain rfl := Option.some.inj e1
  have N5 := Lib.hid (N4.out.trans hn)
  have G0 := Lib.hid g0
  have G1 := Lib.hid g1
  clear hp i1 i2 i3 hn hrun g0 g1 e1
  simp only [List.length_cons, List.length_nil, Nat.zero_add, Nat.reduceAdd]
  go_wp2_with fail
  have k5 := Lib.hid (Nx.one w5 (.cells #[.slice (some ad) 2 d1, .slice B2 0 d2, .slice B3 0 d3, .int .i64 5, .int .i64 4, .int .i64 0] 30))
  have HY := Lib.hid (bx_new w5 30 [.slice (some ad) 2 d1, .slice B2 0 d2, .slice B3 0 d3, .int .i64 5, .int .i64 4, .int .i64 0])
  generalize w5.alloc (.cells #[.slice (some ad) 2 d1, .slice B2 0 d2, .slice B3 0 d3, .int .i64 5, .int .i64 4, .int .i64 0] 30) = W6 at *
  refine (HA.out W6).mono ?_
  rintro e w7 ⟨rfl, hn⟩
  have k7 := Lib.hid (k5.out.trans hn)
  have N7 := Lib.hid (N5.out.trans k7.out)
  have u0 := (HY.out.nx hn).cell 0 rfl
  have u5 := (HY.out.nx hn).cell 5 rfl
  have c0 := k7.out.cell G0.out
  rw [Addr.add_zero'] at c0
  have c1 : w7.cell? ⟨ad.block, ad.off + 1, none⟩ = _ := (congrArg w7.cell? (Addr.add_succ' ad 0)).symm.trans (k7.out.cell G1.out)
  clear hn k5 HY
  go_wp2_with fail
  go_ret
  exact ⟨rfl, N7.out⟩

set_option maxHeartbeats 3200000 in
set_option maxRecDepth 100000 in
theorem law6_bool_1tf (hR : RunOk) (hA : AlOk) (o : Int) (hk : o.tmod 6 = 1) (w : World) :
    Calls Try.prog 7 #[.bool true, .bool false, .int .u8 o] w fun e w' => e = .returned (.bool true) ∧ Nx w w' := by
  have HA := Lib.hid hA
  have HR := Lib.hid hR
  have hmk := make2
  have N4 := Lib.hid (show Nx w ((((w.alloc (.cells #[.bool true, .bool true, .bool true] 4)).alloc (.cells #[.bool true, .bool false] 4)).alloc (.cells #[.int .i64 0, .int .i64 0, .int .i64 0, .int .i64 0, .int .i64 1, .int .i64 0, .int .i64 1, .int .i64 0, .int .i64 11, .int .i64 1, .int .i64 0, .int .i64 0, .int .i64 12, .int .i64 1, .int .i64 1, .int .i64 0, .int .i64 16, .int .i64 0, .int .i64 0, .int .i64 0] 53)).alloc (.cells #[.bool false, .bool false] 4)) from (((Nx.one _ _).alloc _).alloc _).alloc _)
  have XI := Lib.hid (((bx_new (w.alloc (.cells #[.bool true, .bool true, .bool true] 4)) 4 [.bool true, .bool false]).nx (Nx.one _ (.cells #[.int .i64 0, .int .i64 0, .int .i64 0, .int .i64 0, .int .i64 1, .int .i64 0, .int .i64 1, .int .i64 0, .int .i64 11, .int .i64 1, .int .i64 0, .int .i64 0, .int .i64 12, .int .i64 1, .int .i64 1, .int .i64 0, .int .i64 16, .int .i64 0, .int .i64 0, .int .i64 0] 53))).nx (Nx.one _ (.cells #[.bool false, .bool false] 4)))
  have XC := Lib.hid ((bx_new ((w.alloc (.cells #[.bool true, .bool true, .bool true] 4)).alloc (.cells #[.bool true, .bool false] 4)) 53 [.int .i64 0, .int .i64 0, .int .i64 0, .int .i64 0, .int .i64 1, .int .i64 0, .int .i64 1, .int .i64 0, .int .i64 11, .int .i64 1, .int .i64 0, .int .i64 0, .int .i64 12, .int .i64 1, .int .i64 1, .int .i64 0, .int .i64 16, .int .i64 0, .int .i64 0, .int .i64 0]).nx (Nx.one _ (.cells #[.bool false, .bool false] 4)))
  have XQ := Lib.hid (bx_new (((w.alloc (.cells #[.bool true, .bool true, .bool true] 4)).alloc (.cells #[.bool true, .bool false] 4)).alloc (.cells #[.int .i64 0, .int .i64 0, .int .i64 0, .int .i64 0, .int .i64 1, .int .i64 0, .int .i64 1, .int .i64 0, .int .i64 11, .int .i64 1, .int .i64 0, .int .i64 0, .int .i64 12, .int .i64 1, .int .i64 1, .int .i64 0, .int .i64 16, .int .i64 0, .int .i64 0, .int .i64 0] 53)) 4 [.bool false, .bool false])
  rw [show (w.alloc (.cells #[.bool true, .bool true, .bool true] 4)).heap.size = w.heap.size + 1 by simp] at XI
  rw [show ((w.alloc (.cells #[.bool true, .bool true, .bool true] 4)).alloc (.cells #[.bool true, .bool false] 4)).heap.size = w.heap.size + 1 + 1 by simp] at XC
  rw [show (((w.alloc (.cells #[.bool true, .bool true, .bool true] 4)).alloc (.cells #[.bool true, .bool false] 4)).alloc (.cells #[.int .i64 0, .int .i64 0, .int .i64 0, .int .i64 0, .int .i64 1, .int .i64 0, .int .i64 1, .int .i64 0, .int .i64 11, .int .i64 1, .int .i64 0, .int .i64 0, .int .i64 12, .int .i64 1, .int .i64 1, .int .i64 0, .int .i64 16, .int .i64 0, .int .i64 0, .int .i64 0] 53)).heap.size = w.heap.size + 1 + 1 + 1 by simp] at XQ
  clear hA hR
  go_enter Try.func7, Try.ntmps7
  go_wp2_with fail
  clear hmk
  generalize ((((w.alloc (.cells #[.bool true, .bool true, .bool true] 4)).alloc (.cells #[.bool true, .bool false] 4)).alloc (.cells #[.int .i64 0, .int .i64 0, .int .i64 0, .int .i64 0, .int .i64 1, .int .i64 0, .int .i64 1, .int .i64 0, .int .i64 11, .int .i64 1, .int .i64 0, .int .i64 0, .int .i64 12, .int .i64 1, .int .i64 1, .int .i64 0, .int .i64 16, .int .i64 0, .int .i64 0, .int .i64 0] 53)).alloc (.cells #[.bool false, .bool false] 4)) = W at *
  refine (HR.out (boolCode 1) [true, false] [false, false] [] [] _ _ _ _ _ 5 2 2 2 2 0 0 0 0 W (by decide) (by decide) (by decide) (by decide) (by decide) (rdC_bx XC.out) (fun e => by cases e) (im_bx XI.out) (im_bx XQ.out) (im_nil W) (im_nil W)).mono ?_
  intro e w5 hp
  obtain ⟨B1, B2, B3, d1, d2, d3, rfl, i1, i2, i3, hn⟩ := runPost_cells hp
  have hrun : run (boolCode 1) [true, false] (mc0 [false, false] [] []) 0 = (⟨[true, false], [], [], 4, true, [], true, 0⟩, 5) := by kernel_rfl
  rw [hrun] at i1 ⊢
  obtain ⟨ad, e0, g0⟩ := i1.1 0 true rfl
  obtain ⟨ad', e1, g1⟩ := i1.1 1 false rfl
  subst e0
  obtain rfl := Option.some.inj e1
  have N5 := Lib.hid (N4.out.trans hn)
  have G0 := Lib.hid g0
  have G1 := Lib.hid g1
  clear hp i1 i2 i3 hn hrun g0 g1 e1
  simp only [List.length_cons, List.length_nil, Nat.zero_add, Nat.reduceAdd]
  go_wp2_with fail
  have k5 := Lib.hid (Nx.one w5 (.cells #[.slice (some ad) 2 d1, .slice B2 0 d2, .slice B3 0 d3, .int .i64 5, .int .i64 4, .int .i64 0] 30))
  have HY := Lib.hid (bx_new w5 30 [.slice (some ad) 2 d1, .slice B2 0 d2, .slice B3 0 d3, .int .i64 5, .int .i64 4, .int .i64 0])
  generalize w5.alloc (.cells #[.slice (some ad) 2 d1, .slice B2 0 d2, .slice B3 0 d3, .int .i64 5, .int .i64 4, .int .i64 0] 30) = W6 at *
  refine (HA.out W6).mono ?_
  rintro e w7 ⟨rfl, hn⟩
  have k7 := Lib.hid (k5.out.trans hn)
  have N7 := Lib.hid (N5.out.trans k7.out)
  have u0 := (HY.out.nx hn).cell 0 rfl
  have u5 := (HY.out.nx hn).cell 5 rfl
  have c0 := k7.out.cell G0.out
  rw [Addr.add_zero'] at c0
  have c1 : w7.cell? ⟨ad.block, ad.off + 1, none⟩ = _ := (congrArg w7.cell? (Addr.add_succ' ad 0)).symm.trans (k7.out.cell G1.out)
  clear hn k5 HY
  go_wp2_with fail
  go_ret
  exact ⟨rfl, N7.out⟩

set_option maxHeartbeats 3200000 in
set_option maxRecDepth 100000 in
theorem law6_bool_1ft (hR : RunOk) (hA : AlOk) (o : Int) (hk : o.tmod 6 = 1) (w : World) :
    Calls Try.prog 7 #[.bool false, .bool true, .int .u8 o] w fun e w' => e = .returned (.bool true) ∧ Nx w w' := by
  have HA := Lib.hid hA
  have HR := Lib.hid hR
  have hmk := make2
  have N4 := Lib.hid (show Nx w ((((w.alloc (.cells #[.bool false, .bool false, .bool false] 4)).alloc (.cells #[.bool false, .bool true] 4)).alloc (.cells #[.int .i64 0, .int .i64 0, .int .i64 0, .int .i64 0, .int .i64 1, .int .i64 0, .int .i64 1, .int .i64 0, .int .i64 11, .int .i64 1, .int .i64 0, .int .i64 0, .int .i64 12, .int .i64 1, .int .i64 1, .int .i64 0, .int .i64 16, .int .i64 0, .int .i64 0, .int .i64 0] 53)).alloc (.cells #[.bool false, .bool false] 4)) from (((Nx.one _ _).alloc _).alloc _).alloc _)
  have XI := Lib.hid (((bx_new (w.alloc (.cells #[.bool false, .bool false, .bool false] 4)) 4 [.bool false, .bool true]).nx (Nx.one _ (.cells #[.int .i64 0, .int .i64 0, .int .i64 0, .int .i64 0, .int .i64 1, .int .i64 0, .int .i64 1, .int .i64 0, .int .i64 11, .int .i64 1, .int .i64 0, .int .i64 0, .int .i64 12, .int .i64 1, .int .i64 1, .int .i64 0, .int .i64 16, .int .i64 0, .int .i64 0, .int .i64 0] 53))).nx (Nx.one _ (.cells #[.bool false, .bool false] 4)))
  have XC := Lib.hid ((bx_new ((w.alloc (.cells #[.bool false, .bool false, .bool false] 4)).alloc (.cells #[.bool false, .bool true] 4)) 53 [.int .i64 0, .int .i64 0, .int .i64 0, .int .i64 0, .int .i64 1, .int .i64 0, .int .i64 1, .int .i64 0, .int .i64 11, .int .i64 1, .int .i64 0, .int .i64 0, .int .i64 12, .int .i64 1, .int .i64 1, .int .i64 0, .int .i64 16, .int .i64 0, .int .i64 0, .int .i64 0]).nx (Nx.one _ (.cells #[.bool false, .bool false] 4)))
  have XQ := Lib.hid (bx_new (((w.alloc (.cells #[.bool false, .bool false, .bool false] 4)).alloc (.cells #[.bool false, .bool true] 4)).alloc (.cells #[.int .i64 0, .int .i64 0, .int .i64 0, .int .i64 0, .int .i64 1, .int .i64 0, .int .i64 1, .int .i64 0, .int .i64 11, .int .i64 1, .int .i64 0, .int .i64 0, .int .i64 12, .int .i64 1, .int .i64 1, .int .i64 0, .int .i64 16, .int .i64 0, .int .i64 0, .int .i64 0] 53)) 4 [.bool false, .bool false])
  rw [show (w.alloc (.cells #[.bool false, .bool false, .bool false] 4)).heap.size = w.heap.size + 1 by simp] at XI
  rw [show ((w.alloc (.cells #[.bool false, .bool false, .bool false] 4)).alloc (.cells #[.bool false, .bool true] 4)).heap.size = w.heap.size + 1 + 1 by simp] at XC
  rw [show (((w.alloc (.cells #[.bool false, .bool false, .bool false] 4)).alloc (.cells #[.bool false, .bool true] 4)).alloc (.cells #[.int .i64 0, .int .i64 0, .int .i64 0, .int .i64 0, .int .i64 1, .int .i64 0, .int .i64 1, .int .i64 0, .int .i64 11, .int .i64 1, .int .i64 0, .int .i64 0, .int .i64 12, .int .i64 1, .int .i64 1, .int .i64 0, .int .i64 16, .int .i64 0, .int .i64 0, .int .i64 0] 53)).heap.size = w.heap.size + 1 + 1 + 1 by simp] at XQ
  clear hA hR
  go_enter Try.func7, Try.ntmps7
  go_wp2_with fail
  clear hmk
  generalize ((((w.alloc (.cells #[.bool false, .bool false, .bool false] 4)).alloc (.cells #[.bool false, .bool true] 4)).alloc (.cells #[.int .i64 0, .int .i64 0, .int .i64 0, .int .i64 0, .int .i64 1, .int .i64 0, .int .i64 1, .int .i64 0, .int .i64 11, .int .i64 1, .int .i64 0, .int .i64 0, .int .i64 12, .int .i64 1, .int .i64 1, .int .i64 0, .int .i64 16, .int .i64 0, .int .i64 0, .int .i64 0] 53)).alloc (.cells #[.bool false, .bool false] 4)) = W at *
  refine (HR.out (boolCode 1) [false, true] [false, false] [] [] _ _ _ _ _ 5 2 2 2 2 0 0 0 0 W (by decide) (by decide) (by decide) (by decide) (by decide) (rdC_bx XC.out) (fun e => by cases e) (im_bx XI.out) (im_bx XQ.out) (im_nil W) (im_nil W)).mono ?_
  intro e w5 hp
  obtain ⟨B1, B2, B3, d1, d2, d3, rfl, i1, i2, i3, hn⟩ := runPost_cells hp
  have hrun : run (boolCode 1) [false, true] (mc0 [false, false] [] []) 0 = (⟨[false, true], [], [], 4, false, [], true, 0⟩, 5) := by kernel_rfl
  rw [hrun] at i1 ⊢
  obtain ⟨ad, e0, g0⟩ := i1.1 0 false rfl
  obtain ⟨ad', e1, g1⟩ := i1.1 1 true rfl
  subst e0
  obtain rfl := Option.some.inj e1
  have N5 := Lib.hid (N4.out.trans hn)
  have G0 := Lib.hid g0
  have G1 := Lib.hid g1
  clear hp i1 i2 i3 hn hrun g0 g1 e1
  simp only [List.length_cons, List.length_nil, Nat.zero_add, Nat.reduceAdd]
  go_wp2_with fail
  have k5 := Lib.hid (Nx.one w5 (.cells #[.slice (some ad) 2 d1, .slice B2 0 d2, .slice B3 0 d3, .int .i64 5, .int .i64 4, .int .i64 0] 30))
  have HY := Lib.hid (bx_new w5 30 [.slice (some ad) 2 d1, .slice B2 0 d2, .slice B3 0 d3, .int .i64 5, .int .i64 4, .int .i64 0])
  generalize w5.alloc (.cells #[.slice (some ad) 2 d1, .slice B2 0 d2, .slice B3 0 d3, .int .i64 5, .int .i64 4, .int .i64 0] 30) = W6 at *
  refine (HA.out W6).mono ?_
  rintro e w7 ⟨rfl, hn⟩
  have k7 := Lib.hid (k5.out.trans hn)
  have N7 := Lib.hid (N5.out.trans k7.out)
  have u0 := (HY.out.nx hn).cell 0 rfl
  have u5 := (HY.out.nx hn).cell 5 rfl
  have c0 := k7.out.cell G0.out
  rw [Addr.add_zero'] at c0
  have c1 : w7.cell? ⟨ad.block, ad.off + 1, none⟩ = _ := (congrArg w7.cell? (Addr.add_succ' ad 0)).symm.trans (k7.out.cell G1.out)
  clear hn k5 HY
  go_wp2_with fail
  go_ret
  exact ⟨rfl, N7.out⟩

set_option maxHeartbeats 3200000 in
set_option maxRecDepth 100000 in
theorem law6_bool_1ff (hR : RunOk) (hA : AlOk) (o : Int) (hk : o.tmod 6 = 1) (w : World) :
    Calls Try.prog 7 #[.bool false, .bool false, .int .u8 o] w fun e w' => e = .returned (.bool true) ∧ Nx w w' := by
  have HA := Lib.hid hA
  have HR := Lib.hid hR
  have hmk := make2
  have N4 := Lib.hid (show Nx w ((((w.alloc (.cells #[.bool true, .bool false, .bool true] 4)).alloc (.cells #[.bool false, .bool false] 4)).alloc (.cells #[.int .i64 0, .int .i64 0, .int .i64 0, .int .i64 0, .int .i64 1, .int .i64 0, .int .i64 1, .int .i64 0, .int .i64 11, .int .i64 1, .int .i64 0, .int .i64 0, .int .i64 12, .int .i64 1, .int .i64 1, .int .i64 0, .int .i64 16, .int .i64 0, .int .i64 0, .int .i64 0] 53)).alloc (.cells #[.bool false, .bool false] 4)) from (((Nx.one _ _).alloc _).alloc _).alloc _)
  have XI := Lib.hid (((bx_new (w.alloc (.cells #[.bool true, .bool false, .bool true] 4)) 4 [.bool false, .bool false]).nx (Nx.one _ (.cells #[.int .i64 0, .int .i64 0, .int .i64 0, .int .i64 0, .int .i64 1, .int .i64 0, .int .i64 1, .int .i64 0, .int .i64 11, .int .i64 1, .int .i64 0, .int .i64 0, .int .i64 12, .int .i64 1, .int .i64 1, .int .i64 0, .int .i64 16, .int .i64 0, .int .i64 0, .int .i64 0] 53))).nx (Nx.one _ (.cells #[.bool false, .bool false] 4)))
  have XC := Lib.hid ((bx_new ((w.alloc (.cells #[.bool true, .bool false, .bool true] 4)).alloc (.cells #[.bool false, .bool false] 4)) 53 [.int .i64 0, .int .i64 0, .int .i64 0, .int .i64 0, .int .i64 1, .int .i64 0, .int .i64 1, .int .i64 0, .int .i64 11, .int .i64 1, .int .i64 0, .int .i64 0, .int .i64 12, .int .i64 1, .int .i64 1, .int .i64 0, .int .i64 16, .int .i64 0, .int .i64 0, .int .i64 0]).nx (Nx.one _ (.cells #[.bool false, .bool false] 4)))
  have XQ := Lib.hid (bx_new (((w.alloc (.cells #[.bool true, .bool false, .bool true] 4)).alloc (.cells #[.bool false, .bool false] 4)).alloc (.cells #[.int .i64 0, .int .i64 0, .int .i64 0, .int .i64 0, .int .i64 1, .int .i64 0, .int .i64 1, .int .i64 0, .int .i64 11, .int .i64 1, .int .i64 0, .int .i64 0, .int .i64 12, .int .i64 1, .int .i64 1, .int .i64 0, .int .i64 16, .int .i64 0, .int .i64 0, .int .i64 0] 53)) 4 [.bool false, .bool false])
  rw [show (w.alloc (.cells #[.bool true, .bool false, .bool true] 4)).heap.size = w.heap.size + 1 by simp] at XI
  rw [show ((w.alloc (.cells #[.bool true, .bool false, .bool true] 4)).alloc (.cells #[.bool false, .bool false] 4)).heap.size = w.heap.size + 1 + 1 by simp] at XC
  rw [show (((w.alloc (.cells #[.bool true, .bool false, .bool true] 4)).alloc (.cells #[.bool false, .bool false] 4)).alloc (.cells #[.int .i64 0, .int .i64 0, .int .i64 0, .int .i64 0, .int .i64 1, .int .i64 0, .int .i64 1, .int .i64 0, .int .i64 11, .int .i64 1, .int .i64 0, .int .i64 0, .int .i64 12, .int .i64 1, .int .i64 1, .int .i64 0, .int .i64 16, .int .i64 0, .int .i64 0, .int .i64 0] 53)).heap.size = w.heap.size + 1 + 1 + 1 by simp] at XQ
  clear hA hR
  go_enter Try.func7, Try.ntmps7
  go_wp2_with fail
  clear hmk
  generalize ((((w.alloc (.cells #[.bool true, .bool false, .bool true] 4)).alloc (.cells #[.bool false, .bool false] 4)).alloc (.cells #[.int .i64 0, .int .i64 0, .int .i64 0, .int .i64 0, .int .i64 1, .int .i64 0, .int .i64 1, .int .i64 0, .int .i64 11, .int .i64 1, .int .i64 0, .int .i64 0, .int .i64 12, .int .i64 1, .int .i64 1, .int .i64 0, .int .i64 16, .int .i64 0, .int .i64 0, .int .i64 0] 53)).alloc (.cells #[.bool false, .bool false] 4)) = W at *
  refine (HR.out (boolCode 1) [false, false] [false, false] [] [] _ _ _ _ _ 5 2 2 2 2 0 0 0 0 W (by decide) (by decide) (by decide) (by decide) (by decide) (rdC_bx XC.out) (fun e => by cases e) (im_bx XI.out) (im_bx XQ.out) (im_nil W) (im_nil W)).mono ?_
  intro e w5 hp
  obtain ⟨B1, B2, B3, d1, d2, d3, rfl, i1, i2, i3, hn⟩ := runPost_cells hp
  have hrun : run (boolCode 1) [false, false] (mc0 [false, false] [] []) 0 = (⟨[true, false], [], [], 4, true, [], true, 0⟩, 5) := by kernel_rfl
  rw [hrun] at i1 ⊢
  obtain ⟨ad, e0, g0⟩ := i1.1 0 true rfl
  obtain ⟨ad', e1, g1⟩ := i1.1 1 false rfl
  subst e0
  obtain rfl := Option.some.inj e1
  have N5 := Lib.hid (N4.out.trans hn)
  have G0 := Lib.hid g0
  have G1 := Lib.hid g1
  clear hp i1 i2 i3 hn hrun g0 g1 e1
  simp only [List.length_cons, List.length_nil, Nat.zero_add, Nat.reduceAdd]
  go_wp2_with fail
  have k5 := Lib.hid (Nx.one w5 (.cells #[.slice (some ad) 2 d1, .slice B2 0 d2, .slice B3 0 d3, .int .i64 5, .int .i64 4, .int .i64 0] 30))
  have HY := Lib.hid (bx_new w5 30 [.slice (some ad) 2 d1, .slice B2 0 d2, .slice B3 0 d3, .int .i64 5, .int .i64 4, .int .i64 0])
  generalize w5.alloc (.cells #[.slice (some ad) 2 d1, .slice B2 0 d2, .slice B3 0 d3, .int .i64 5, .int .i64 4, .int .i64 0] 30) = W6 at *
  refine (HA.out W6).mono ?_
  rintro e w7 ⟨rfl, hn⟩
  have k7 := Lib.hid (k5.out.trans hn)
  have N7 := Lib.hid (N5.out.trans k7.out)
  have u0 := (HY.out.nx hn).cell 0 rfl
  have u5 := (HY.out.nx hn).cell 5 rfl
  have c0 := k7.out.cell G0.out
  rw [Addr.add_zero'] at c0
  have c1 : w7.cell? ⟨ad.block, ad.off + 1, none⟩ = _ := (congrArg w7.cell? (Addr.add_succ' ad 0)).symm.trans (k7.out.cell G1.out)
  clear hn k5 HY
  go_wp2_with fail
  go_ret
  exact ⟨rfl, N7.out⟩

set_option maxHeartbeats 3200000 in
set_option maxRecDepth 100000 in
theorem law6_bool_2tt (hR : RunOk) (hA : AlOk) (o : Int) (hk : o.tmod 6 = 2) (w : World) :
    Calls Try.prog 7 #[.bool true, .bool true, .int .u8 o] w fun e w' => e = .returned (.bool true) ∧ Nx w w' := by
  have HA := Lib.hid hA
  have HR := Lib.hid hR
  have hmk := make2
  have N4 := Lib.hid (show Nx w ((((w.alloc (.cells #[.bool true, .bool true, .bool true] 4)).alloc (.cells #[.bool true, .bool true] 4)).alloc (.cells #[.int .i64 0, .int .i64 0, .int .i64 0, .int .i64 0, .int .i64 2, .int .i64 0, .int .i64 1, .int .i64 0, .int .i64 11, .int .i64 1, .int .i64 0, .int .i64 0, .int .i64 12, .int .i64 1, .int .i64 1, .int .i64 0, .int .i64 16, .int .i64 0, .int .i64 0, .int .i64 0] 53)).alloc (.cells #[.bool false, .bool false] 4)) from (((Nx.one _ _).alloc _).alloc _).alloc _)
  have XI := Lib.hid (((bx_new (w.alloc (.cells #[.bool true, .bool true, .bool true] 4)) 4 [.bool true, .bool true]).nx (Nx.one _ (.cells #[.int .i64 0, .int .i64 0, .int .i64 0, .int .i64 0, .int .i64 2, .int .i64 0, .int .i64 1, .int .i64 0, .int .i64 11, .int .i64 1, .int .i64 0, .int .i64 0, .int .i64 12, .int .i64 1, .int .i64 1, .int .i64 0, .int .i64 16, .int .i64 0, .int .i64 0, .int .i64 0] 53))).nx (Nx.one _ (.cells #[.bool false, .bool false] 4)))
  have XC := Lib.hid ((bx_new ((w.alloc (.cells #[.bool true, .bool true, .bool true] 4)).alloc (.cells #[.bool true, .bool true] 4)) 53 [.int .i64 0, .int .i64 0, .int .i64 0, .int .i64 0, .int .i64 2, .int .i64 0, .int .i64 1, .int .i64 0, .int .i64 11, .int .i64 1, .int .i64 0, .int .i64 0, .int .i64 12, .int .i64 1, .int .i64 1, .int .i64 0, .int .i64 16, .int .i64 0, .int .i64 0, .int .i64 0]).nx (Nx.one _ (.cells #[.bool false, .bool false] 4)))
  have XQ := Lib.hid (bx_new (((w.alloc (.cells #[.bool true, .bool true, .bool true] 4)).alloc (.cells #[.bool true, .bool true] 4)).alloc (.cells #[.int .i64 0, .int .i64 0, .int .i64 0, .int .i64 0, .int .i64 2, .int .i64 0, .int .i64 1, .int .i64 0, .int .i64 11, .int .i64 1, .int .i64 0, .int .i64 0, .int .i64 12, .int .i64 1, .int .i64 1, .int .i64 0, .int .i64 16, .int .i64 0, .int .i64 0, .int .i64 0] 53)) 4 [.bool false, .bool false])
  rw [show (w.alloc (.cells #[.bool true, .bool true, .bool true] 4)).heap.size = w.heap.size + 1 by simp] at XI
  rw [show ((w.alloc (.cells #[.bool true, .bool true, .bool true] 4)).alloc (.cells #[.bool true, .bool true] 4)).heap.size = w.heap.size + 1 + 1 by simp] at XC
  rw [show (((w.alloc (.cells #[.bool true, .bool true, .bool true] 4)).alloc (.cells #[.bool true, .bool true] 4)).alloc (.cells #[.int .i64 0, .int .i64 0, .int .i64 0, .int .i64 0, .int .i64 2, .int .i64 0, .int .i64 1, .int .i64 0, .int .i64 11, .int .i64 1, .int .i64 0, .int .i64 0, .int .i64 12, .int .i64 1, .int .i64 1, .int .i64 0, .int .i64 16, .int .i64 0, .int .i64 0, .int .i64 0] 53)).heap.size = w.heap.size + 1 + 1 + 1 by simp] at XQ
  clear hA hR
  go_enter Try.func7, Try.ntmps7
  go_wp2_with fail
  clear hmk
  generalize ((((w.alloc (.cells #[.bool true, .bool true, .bool true] 4)).alloc (.cells #[.bool true, .bool true] 4)).alloc (.cells #[.int .i64 0, .int .i64 0, .int .i64 0, .int .i64 0, .int .i64 2, .int .i64 0, .int .i64 1, .int .i64 0, .int .i64 11, .int .i64 1, .int .i64 0, .int .i64 0, .int .i64 12, .int .i64 1, .int .i64 1, .int .i64 0, .int .i64 16, .int .i64 0, .int .i64 0, .int .i64 0] 53)).alloc (.cells #[.bool false, .bool false] 4)) = W at *
  refine (HR.out (boolCode 2) [true, true] [false, false] [] [] _ _ _ _ _ 5 2 2 2 2 0 0 0 0 W (by decide) (by decide) (by decide) (by decide) (by decide) (rdC_bx XC.out) (fun e => by cases e) (im_bx XI.out) (im_bx XQ.out) (im_nil W) (im_nil W)).mono ?_
  intro e w5 hp
  obtain ⟨B1, B2, B3, d1, d2, d3, rfl, i1, i2, i3, hn⟩ := runPost_cells hp
  have hrun : run (boolCode 2) [true, true] (mc0 [false, false] [] []) 0 = (⟨[true, false], [], [], 4, true, [], true, 0⟩, 5) := by kernel_rfl
  rw [hrun] at i1 ⊢
  obtain ⟨ad, e0, g0⟩ := i1.1 0 true rfl
  obtain ⟨ad', e1, g1⟩ := i1.1 1 false rfl
  subst e0
  obtain rfl := Option.some.inj e1
  have N5 := Lib.hid (N4.out.trans hn)
  have G0 := Lib.hid g0
  have G1 := Lib.hid g1
  clear hp i1 i2 i3 hn hrun g0 g1 e1
  simp only [List.length_cons, List.length_nil, Nat.zero_add, Nat.reduceAdd]
  go_wp2_with fail
  have k5 := Lib.hid (Nx.one w5 (.cells #[.slice (some ad) 2 d1, .slice B2 0 d2, .slice B3 0 d3, .int .i64 5, .int .i64 4, .int .i64 0] 30))
  have HY := Lib.hid (bx_new w5 30 [.slice (some ad) 2 d1, .slice B2 0 d2, .slice B3 0 d3, .int .i64 5, .int .i64 4, .int .i64 0])
  generalize w5.alloc (.cells #[.slice (some ad) 2 d1, .slice B2 0 d2, .slice B3 0 d3, .int .i64 5, .int .i64 4, .int .i64 0] 30) = W6 at *
  refine (HA.out W6).mono ?_
  rintro e w7 ⟨rfl, hn⟩
  have k7 := Lib.hid (k5.out.trans hn)
  have N7 := Lib.hid (N5.out.trans k7.out)
  have u0 := (HY.out.nx hn).cell 0 rfl
  have u5 := (HY.out.nx hn).cell 5 rfl
  have c0 := k7.out.cell G0.out
  rw [Addr.add_zero'] at c0
  have c1 : w7.cell? ⟨ad.block, ad.off + 1, none⟩ = _ := (congrArg w7.cell? (Addr.add_succ' ad 0)).symm.trans (k7.out.cell G1.out)
  clear hn k5 HY
  go_wp2_with fail
  go_ret
  exact ⟨rfl, N7.out⟩

set_option maxHeartbeats 3200000 in
set_option maxRecDepth 100000 in
theorem law6_bool_2tf (hR : RunOk) (hA : AlOk) (o : Int) (hk : o.tmod 6 = 2) (w : World) :
    Calls Try.prog 7 #[.bool true, .bool false, .int .u8 o] w fun e w' => e = .returned (.bool true) ∧ Nx w w' := by
  have HA := Lib.hid hA
  have HR := Lib.hid hR
  have hmk := make2
  have N4 := Lib.hid (show Nx w ((((w.alloc (.cells #[.bool false, .bool false, .bool true] 4)).alloc (.cells #[.bool true, .bool false] 4)).alloc (.cells #[.int .i64 0, .int .i64 0, .int .i64 0, .int .i64 0, .int .i64 2, .int .i64 0, .int .i64 1, .int .i64 0, .int .i64 11, .int .i64 1, .int .i64 0, .int .i64 0, .int .i64 12, .int .i64 1, .int .i64 1, .int .i64 0, .int .i64 16, .int .i64 0, .int .i64 0, .int .i64 0] 53)).alloc (.cells #[.bool false, .bool false] 4)) from (((Nx.one _ _).alloc _).alloc _).alloc _)
  have XI := Lib.hid (((bx_new (w.alloc (.cells #[.bool false, .bool false, .bool true] 4)) 4 [.bool true, .bool false]).nx (Nx.one _ (.cells #[.int .i64 0, .int .i64 0, .int .i64 0, .int .i64 0, .int .i64 2, .int .i64 0, .int .i64 1, .int .i64 0, .int .i64 11, .int .i64 1, .int .i64 0, .int .i64 0, .int .i64 12, .int .i64 1, .int .i64 1, .int .i64 0, .int .i64 16, .int .i64 0, .int .i64 0, .int .i64 0] 53))).nx (Nx.one _ (.cells #[.bool false, .bool false] 4)))
  have XC := Lib.hid ((bx_new ((w.alloc (.cells #[.bool false, .bool false, .bool true] 4)).alloc (.cells #[.bool true, .bool false] 4)) 53 [.int .i64 0, .int .i64 0, .int .i64 0, .int .i64 0, .int .i64 2, .int .i64 0, .int .i64 1, .int .i64 0, .int .i64 11, .int .i64 1, .int .i64 0, .int .i64 0, .int .i64 12, .int .i64 1, .int .i64 1, .int .i64 0, .int .i64 16, .int .i64 0, .int .i64 0, .int .i64 0]).nx (Nx.one _ (.cells #[.bool false, .bool false] 4)))
  have XQ := Lib.hid (bx_new (((w.alloc (.cells #[.bool false, .bool false, .bool true] 4)).alloc (.cells #[.bool true, .bool false] 4)).alloc (.cells #[.int .i64 0, .int .i64 0, .int .i64 0, .int .i64 0, .int .i64 2, .int .i64 0, .int .i64 1, .int .i64 0, .int .i64 11, .int .i64 1, .int .i64 0, .int .i64 0, .int .i64 12, .int .i64 1, .int .i64 1, .int .i64 0, .int .i64 16, .int .i64 0, .int .i64 0, .int .i64 0] 53)) 4 [.bool false, .bool false])
  rw [show (w.alloc (.cells #[.bool false, .bool false, .bool true] 4)).heap.size = w.heap.size + 1 by simp] at XI
  rw [show ((w.alloc (.cells #[.bool false, .bool false, .bool true] 4)).alloc (.cells #[.bool true, .bool false] 4)).heap.size = w.heap.size + 1 + 1 by simp] at XC
  rw [show (((w.alloc (.cells #[.bool false, .bool false, .bool true] 4)).alloc (.cells #[.bool true, .bool false] 4)).alloc (.cells #[.int .i64 0, .int .i64 0, .int .i64 0, .int .i64 0, .int .i64 2, .int .i64 0, .int .i64 1, .int .i64 0, .int .i64 11, .int .i64 1, .int .i64 0, .int .i64 0, .int .i64 12, .int .i64 1, .int .i64 1, .int .i64 0, .int .i64 16, .int .i64 0, .int .i64 0, .int .i64 0] 53)).heap.size = w.heap.size + 1 + 1 + 1 by simp] at XQ
  clear hA hR
  go_enter Try.func7, Try.ntmps7
  go_wp2_with fail
  clear hmk
  generalize ((((w.alloc (.cells #[.bool false, .bool false, .bool true] 4)).alloc (.cells #[.bool true, .bool false] 4)).alloc (.cells #[.int .i64 0, .int .i64 0, .int .i64 0, .int .i64 0, .int .i64 2, .int .i64 0, .int .i64 1, .int .i64 0, .int .i64 11, .int .i64 1, .int .i64 0, .int .i64 0, .int .i64 12, .int .i64 1, .int .i64 1, .int .i64 0, .int .i64 16, .int .i64 0, .int .i64 0, .int .i64 0] 53)).alloc (.cells #[.bool false, .bool false] 4)) = W at *
  refine (HR.out (boolCode 2) [true, false] [false, false] [] [] _ _ _ _ _ 5 2 2 2 2 0 0 0 0 W (by decide) (by decide) (by decide) (by decide) (by decide) (rdC_bx XC.out) (fun e => by cases e) (im_bx XI.out) (im_bx XQ.out) (im_nil W) (im_nil W)).mono ?_
  intro e w5 hp
  obtain ⟨B1, B2, B3, d1, d2, d3, rfl, i1, i2, i3, hn⟩ := runPost_cells hp
  have hrun : run (boolCode 2) [true, false] (mc0 [false, false] [] []) 0 = (⟨[false, true], [], [], 4, false, [], true, 0⟩, 5) := by kernel_rfl
  rw [hrun] at i1 ⊢
  obtain ⟨ad, e0, g0⟩ := i1.1 0 false rfl
  obtain ⟨ad', e1, g1⟩ := i1.1 1 true rfl
  subst e0
  obtain rfl := Option.some.inj e1
  have N5 := Lib.hid (N4.out.trans hn)
  have G0 := Lib.hid g0
  have G1 := Lib.hid g1
  clear hp i1 i2 i3 hn hrun g0 g1 e1
  simp only [List.length_cons, List.length_nil, Nat.zero_add, Nat.reduceAdd]
  go_wp2_with fail
  have k5 := Lib.hid (Nx.one w5 (.cells #[.slice (some ad) 2 d1, .slice B2 0 d2, .slice B3 0 d3, .int .i64 5, .int .i64 4, .int .i64 0] 30))
  have HY := Lib.hid (bx_new w5 30 [.slice (some ad) 2 d1, .slice B2 0 d2, .slice B3 0 d3, .int .i64 5, .int .i64 4, .int .i64 0])
  generalize w5.alloc (.cells #[.slice (some ad) 2 d1, .slice B2 0 d2, .slice B3 0 d3, .int .i64 5, .int .i64 4, .int .i64 0] 30) = W6 at *
  refine (HA.out W6).mono ?_
  rintro e w7 ⟨rfl, hn⟩
  have k7 := Lib.hid (k5.out.trans hn)
  have N7 := Lib.hid (N5.out.trans k7.out)
  have u0 := (HY.out.nx hn).cell 0 rfl
  have u5 := (HY.out.nx hn).cell 5 rfl
  have c0 := k7.out.cell G0.out
  rw [Addr.add_zero'] at c0
  have c1 : w7.cell? ⟨ad.block, ad.off + 1, none⟩ = _ := (congrArg w7.cell? (Addr.add_succ' ad 0)).symm.trans (k7.out.cell G1.out)
  clear hn k5 HY
  go_wp2_with fail
  go_ret
  exact ⟨rfl, N7.out⟩

set_option maxHeartbeats 3200000 in
set_option maxRecDepth 100000 in
theorem law6_bool_2ft (hR : RunOk) (hA : AlOk) (o : Int) (hk : o.tmod 6 = 2) (w : World) :
    Calls Try.prog 7 #[.bool false, .bool true, .int .u8 o] w fun e w' => e = .returned (.bool true) ∧ Nx w w' := by
  have HA := Lib.hid hA
  have HR := Lib.hid hR
  have hmk := make2
  have N4 := Lib.hid (show Nx w ((((w.alloc (.cells #[.bool true, .bool false, .bool true] 4)).alloc (.cells #[.bool false, .bool true] 4)).alloc (.cells #[.int .i64 0, .int .i64 0, .int .i64 0, .int .i64 0, .int .i64 2, .int .i64 0, .int .i64 1, .int .i64 0, .int .i64 11, .int .i64 1, .int .i64 0, .int .i64 0, .int .i64 12, .int .i64 1, .int .i64 1, .int .i64 0, .int .i64 16, .int .i64 0, .int .i64 0, .int .i64 0] 53)).alloc (.cells #[.bool false, .bool false] 4)) from (((Nx.one _ _).alloc _).alloc _).alloc _)
  have XI := Lib.hid (((bx_new (w.alloc (.cells #[.bool true, .bool false, .bool true] 4)) 4 [.bool false, .bool true]).nx (Nx.one _ (.cells #[.int .i64 0, .int .i64 0, .int .i64 0, .int .i64 0, .int .i64 2, .int .i64 0, .int .i64 1, .int .i64 0, .int .i64 11, .int .i64 1, .int .i64 0, .int .i64 0, .int .i64 12, .int .i64 1, .int .i64 1, .int .i64 0, .int .i64 16, .int .i64 0, .int .i64 0, .int .i64 0] 53))).nx (Nx.one _ (.cells #[.bool false, .bool false] 4)))
  have XC := Lib.hid ((bx_new ((w.alloc (.cells #[.bool true, .bool false, .bool true] 4)).alloc (.cells #[.bool false, .bool true] 4)) 53 [.int .i64 0, .int .i64 0, .int .i64 0, .int .i64 0, .int .i64 2, .int .i64 0, .int .i64 1, .int .i64 0, .int .i64 11, .int .i64 1, .int .i64 0, .int .i64 0, .int .i64 12, .int .i64 1, .int .i64 1, .int .i64 0, .int .i64 16, .int .i64 0, .int .i64 0, .int .i64 0]).nx (Nx.one _ (.cells #[.bool false, .bool false] 4)))
  have XQ := Lib.hid (bx_new (((w.alloc (.cells #[.bool true, .bool false, .bool true] 4)).alloc (.cells #[.bool false, .bool true] 4)).alloc (.cells #[.int .i64 0, .int .i64 0, .int .i64 0, .int .i64 0, .int .i64 2, .int .i64 0, .int .i64 1, .int .i64 0, .int .i64 11, .int .i64 1, .int .i64 0, .int .i64 0, .int .i64 12, .int .i64 1, .int .i64 1, .int .i64 0, .int .i64 16, .int .i64 0, .int .i64 0, .int .i64 0] 53)) 4 [.bool false, .bool false])
  rw [show (w.alloc (.cells #[.bool true, .bool false, .bool true] 4)).heap.size = w.heap.size + 1 by simp] at XI
  rw [show ((w.alloc (.cells #[.bool true, .bool false, .bool true] 4)).alloc (.cells #[.bool false, .bool true] 4)).heap.size = w.heap.size + 1 + 1 by simp] at XC
  rw [show (((w.alloc (.cells #[.bool true, .bool false, .bool true] 4)).alloc (.cells #[.bool false, .bool true] 4)).alloc (.cells #[.int .i64 0, .int .i64 0, .int .i64 0, .int .i64 0, .int .i64 2, .int .i64 0, .int .i64 1, .int .i64 0, .int .i64 11, .int .i64 1, .int .i64 0, .int .i64 0, .int .i64 12, .int .i64 1, .int .i64 1, .int .i64 0, .int .i64 16, .int .i64 0, .int .i64 0, .int .i64 0] 53)).heap.size = w.heap.size + 1 + 1 + 1 by simp] at XQ
  clear hA hR
  go_enter Try.func7, Try.ntmps7
  go_wp2_with fail
  clear hmk
  generalize ((((w.alloc (.cells #[.bool true, .bool false, .bool true] 4)).alloc (.cells #[.bool false, .bool true] 4)).alloc (.cells #[.int .i64 0, .int .i64 0, .int .i64 0, .int .i64 0, .int .i64 2, .int .i64 0, .int .i64 1, .int .i64 0, .int .i64 11, .int .i64 1, .int .i64 0, .int .i64 0, .int .i64 12, .int .i64 1, .int .i64 1, .int .i64 0, .int .i64 16, .int .i64 0, .int .i64 0, .int .i64 0] 53)).alloc (.cells #[.bool false, .bool false] 4)) = W at *
  refine (HR.out (boolCode 2) [false, true] [false, false] [] [] _ _ _ _ _ 5 2 2 2 2 0 0 0 0 W (by decide) (by decide) (by decide) (by decide) (by decide) (rdC_bx XC.out) (fun e => by cases e) (im_bx XI.out) (im_bx XQ.out) (im_nil W) (im_nil W)).mono ?_
  intro e w5 hp
  obtain ⟨B1, B2, B3, d1, d2, d3, rfl, i1, i2, i3, hn⟩ := runPost_cells hp
  have hrun : run (boolCode 2) [false, true] (mc0 [false, false] [] []) 0 = (⟨[false, true], [], [], 4, false, [], true, 0⟩, 5) := by kernel_rfl
  rw [hrun] at i1 ⊢
  obtain ⟨ad, e0, g0⟩ := i1.1 0 false rfl
  obtain ⟨ad', e1, g1⟩ := i1.1 1 true rfl
  subst e0
  obtain rfl := Option.some.inj e1
  have N5 := Lib.hid (N4.out.trans hn)
  have G0 := Lib.hid g0
  have G1 := Lib.hid g1
  clear hp i1 i2 i3 hn hrun g0 g1 e1
  simp only [List.length_cons, List.length_nil, Nat.zero_add, Nat.reduceAdd]
  go_wp2_with fail
  have k5 := Lib.hid (Nx.one w5 (.cells #[.slice (some ad) 2 d1, .slice B2 0 d2, .slice B3 0 d3, .int .i64 5, .int .i64 4, .int .i64 0] 30))
  have HY := Lib.hid (bx_new w5 30 [.slice (some ad) 2 d1, .slice B2 0 d2, .slice B3 0 d3, .int .i64 5, .int .i64 4, .int .i64 0])
  generalize w5.alloc (.cells #[.slice (some ad) 2 d1, .slice B2 0 d2, .slice B3 0 d3, .int .i64 5, .int .i64 4, .int .i64 0] 30) = W6 at *
  refine (HA.out W6).mono ?_
  rintro e w7 ⟨rfl, hn⟩
  have k7 := Lib.hid (k5.out.trans hn)
  have N7 := Lib.hid (N5.out.trans k7.out)
  have u0 := (HY.out.nx hn).cell 0 rfl
  have u5 := (HY.out.nx hn).cell 5 rfl
  have c0 := k7.out.cell G0.out
  rw [Addr.add_zero'] at c0
  have c1 : w7.cell? ⟨ad.block, ad.off + 1, none⟩ = _ := (congrArg w7.cell? (Addr.add_succ' ad 0)).symm.trans (k7.out.cell G1.out)
  clear hn k5 HY
  go_wp2_with fail
  go_ret
  exact ⟨rfl, N7.out⟩

set_option maxHeartbeats 3200000 in
set_option maxRecDepth 100000 in
theorem law6_bool_2ff (hR : RunOk) (hA : AlOk) (o : Int) (hk : o.tmod 6 = 2) (w : World) :
    Calls Try.prog 7 #[.bool false, .bool false, .int .u8 o] w fun e w' => e = .returned (.bool true) ∧ Nx w w' := by
  have HA := Lib.hid hA
  have HR := Lib.hid hR
  have hmk := make2
  have N4 := Lib.hid (show Nx w ((((w.alloc (.cells #[.bool false, .bool false, .bool false] 4)).alloc (.cells #[.bool false, .bool false] 4)).alloc (.cells #[.int .i64 0, .int .i64 0, .int .i64 0, .int .i64 0, .int .i64 2, .int .i64 0, .int .i64 1, .int .i64 0, .int .i64 11, .int .i64 1, .int .i64 0, .int .i64 0, .int .i64 12, .int .i64 1, .int .i64 1, .int .i64 0, .int .i64 16, .int .i64 0, .int .i64 0, .int .i64 0] 53)).alloc (.cells #[.bool false, .bool false] 4)) from (((Nx.one _ _).alloc _).alloc _).alloc _)
  have XI := Lib.hid (((bx_new (w.alloc (.cells #[.bool false, .bool false, .bool false] 4)) 4 [.bool false, .bool false]).nx (Nx.one _ (.cells #[.int .i64 0, .int .i64 0, .int .i64 0, .int .i64 0, .int .i64 2, .int .i64 0, .int .i64 1, .int .i64 0, .int .i64 11, .int .i64 1, .int .i64 0, .int .i64 0, .int .i64 12, .int .i64 1, .int .i64 1, .int .i64 0, .int .i64 16, .int .i64 0, .int .i64 0, .int .i64 0] 53))).nx (Nx.one _ (.cells #[.bool false, .bool false] 4)))
  have XC := Lib.hid ((bx_new ((w.alloc (.cells #[.bool false, .bool false, .bool false] 4)).alloc (.cells #[.bool false, .bool false] 4)) 53 [.int .i64 0, .int .i64 0, .int .i64 0, .int .i64 0, .int .i64 2, .int .i64 0, .int .i64 1, .int .i64 0, .int .i64 11, .int .i64 1, .int .i64 0, .int .i64 0, .int .i64 12, .int .i64 1, .int .i64 1, .int .i64 0, .int .i64 16, .int .i64 0, .int .i64 0, .int .i64 0]).nx (Nx.one _ (.cells #[.bool false, .bool false] 4)))
  have XQ := Lib.hid (bx_new (((w.alloc (.cells #[.bool false, .bool false, .bool false] 4)).alloc (.cells #[.bool false, .bool false] 4)).alloc (.cells #[.int .i64 0, .int .i64 0, .int .i64 0, .int .i64 0, .int .i64 2, .int .i64 0, .int .i64 1, .int .i64 0, .int .i64 11, .int .i64 1, .int .i64 0, .int .i64 0, .int .i64 12, .int .i64 1, .int .i64 1, .int .i64 0, .int .i64 16, .int .i64 0, .int .i64 0, .int .i64 0] 53)) 4 [.bool false, .bool false])
  rw [show (w.alloc (.cells #[.bool false, .bool false, .bool false] 4)).heap.size = w.heap.size + 1 by simp] at XI
  rw [show ((w.alloc (.cells #[.bool false, .bool false, .bool false] 4)).alloc (.cells #[.bool false, .bool false] 4)).heap.size = w.heap.size + 1 + 1 by simp] at XC
  rw [show (((w.alloc (.cells #[.bool false, .bool false, .bool false] 4)).alloc (.cells #[.bool false, .bool false] 4)).alloc (.cells #[.int .i64 0, .int .i64 0, .int .i64 0, .int .i64 0, .int .i64 2, .int .i64 0, .int .i64 1, .int .i64 0, .int .i64 11, .int .i64 1, .int .i64 0, .int .i64 0, .int .i64 12, .int .i64 1, .int .i64 1, .int .i64 0, .int .i64 16, .int .i64 0, .int .i64 0, .int .i64 0] 53)).heap.size = w.heap.size + 1 + 1 + 1 by simp] at XQ
  clear hA hR
  go_enter Try.func7, Try.ntmps7
  go_wp2_with fail
  clear hmk
  generalize ((((w.alloc (.cells #[.bool false, .bool false, .bool false] 4)).alloc (.cells #[.bool false, .bool false] 4)).alloc (.cells #[.int .i64 0, .int .i64 0, .int .i64 0, .int .i64 0, .int .i64 2, .int .i64 0, .int .i64 1, .int .i64 0, .int .i64 11, .int .i64 1, .int .i64 0, .int .i64 0, .int .i64 12, .int .i64 1, .int .i64 1, .int .i64 0, .int .i64 16, .int .i64 0, .int .i64 0, .int .i64 0] 53)).alloc (.cells #[.bool false, .bool false] 4)) = W at *
  refine (HR.out (boolCode 2) [false, false] [false, false] [] [] _ _ _ _ _ 5 2 2 2 2 0 0 0 0 W (by decide) (by decide) (by decide) (by decide) (by decide) (rdC_bx XC.out) (fun e => by cases e) (im_bx XI.out) (im_bx XQ.out) (im_nil W) (im_nil W)).mono ?_
  intro e w5 hp
  obtain ⟨B1, B2, B3, d1, d2, d3, rfl, i1, i2, i3, hn⟩ := runPost_cells hp
  have hrun : run (boolCode 2) [false, false] (mc0 [false, false] [] []) 0 = (⟨[false, true], [], [], 4, false, [], true, 0⟩, 5) := by kernel_rfl
  rw [hrun] at i1 ⊢
  obtain ⟨ad, e0, g0⟩ := i1.1 0 false rfl
  obtain ⟨ad', e1, g1⟩ := i1.1 1 true rfl
  subst e0
  obtain rfl := Option.some.inj e1
  have N5 := Lib.hid (N4.out.trans hn)
  have G0 := Lib.hid g0
  have G1 := Lib.hid g1
  clear hp i1 i2 i3 hn hrun g0 g1 e1
  simp only [List.length_cons, List.length_nil, Nat.zero_add, Nat.reduceAdd]
  go_wp2_with fail
  have k5 := Lib.hid (Nx.one w5 (.cells #[.slice (some ad) 2 d1, .slice B2 0 d2, .slice B3 0 d3, .int .i64 5, .int .i64 4, .int .i64 0] 30))
  have HY := Lib.hid (bx_new w5 30 [.slice (some ad) 2 d1, .slice B2 0 d2, .slice B3 0 d3, .int .i64 5, .int .i64 4, .int .i64 0])
  generalize w5.alloc (.cells #[.slice (some ad) 2 d1, .slice B2 0 d2, .slice B3 0 d3, .int .i64 5, .int .i64 4, .int .i64 0] 30) = W6 at *
  refine (HA.out W6).mono ?_
  rintro e w7 ⟨rfl, hn⟩
  have k7 := Lib.hid (k5.out.trans hn)
  have N7 := Lib.hid (N5.out.trans k7.out)
  have u0 := (HY.out.nx hn).cell 0 rfl
  have u5 := (HY.out.nx hn).cell 5 rfl
  have c0 := k7.out.cell G0.out
  rw [Addr.add_zero'] at c0
  have c1 : w7.cell? ⟨ad.block, ad.off + 1, none⟩ = _ := (congrArg w7.cell? (Addr.add_succ' ad 0)).symm.trans (k7.out.cell G1.out)
  clear hn k5 HY
  go_wp2_with fail
  go_ret
  exact ⟨rfl, N7.out⟩

set_option maxHeartbeats 3200000 in
set_option maxRecDepth 100000 in
theorem law6_bool_3tt (hR : RunOk) (hA : AlOk) (o : Int) (hk : o.tmod 6 = 3) (w : World) :
    Calls Try.prog 7 #[.bool true, .bool true, .int .u8 o] w fun e w' => e = .returned (.bool true) ∧ Nx w w' := by
  have HA := Lib.hid hA
  have HR := Lib.hid hR
  have hmk := make2
  have N4 := Lib.hid (show Nx w ((((w.alloc (.cells #[.bool false, .bool false, .bool true] 4)).alloc (.cells #[.bool true, .bool true] 4)).alloc (.cells #[.int .i64 0, .int .i64 0, .int .i64 0, .int .i64 0, .int .i64 3, .int .i64 0, .int .i64 1, .int .i64 0, .int .i64 11, .int .i64 1, .int .i64 0, .int .i64 0, .int .i64 12, .int .i64 1, .int .i64 1, .int .i64 0, .int .i64 16, .int .i64 0, .int .i64 0, .int .i64 0] 53)).alloc (.cells #[.bool false, .bool false] 4)) from (((Nx.one _ _).alloc _).alloc _).alloc _)
  have XI := Lib.hid (((bx_new (w.alloc (.cells #[.bool false, .bool false, .bool true] 4)) 4 [.bool true, .bool true]).nx (Nx.one _ (.cells #[.int .i64 0, .int .i64 0, .int .i64 0, .int .i64 0, .int .i64 3, .int .i64 0, .int .i64 1, .int .i64 0, .int .i64 11, .int .i64 1, .int .i64 0, .int .i64 0, .int .i64 12, .int .i64 1, .int .i64 1, .int .i64 0, .int .i64 16, .int .i64 0, .int .i64 0, .int .i64 0] 53))).nx (Nx.one _ (.cells #[.bool false, .bool false] 4)))
  have XC := Lib.hid ((bx_new ((w.alloc (.cells #[.bool false, .bool false, .bool true] 4)).alloc (.cells #[.bool true, .bool true] 4)) 53 [.int .i64 0, .int .i64 0, .int .i64 0, .int .i64 0, .int .i64 3, .int .i64 0, .int .i64 1, .int .i64 0, .int .i64 11, .int .i64 1, .int .i64 0, .int .i64 0, .int .i64 12, .int .i64 1, .int .i64 1, .int .i64 0, .int .i64 16, .int .i64 0, .int .i64 0, .int .i64 0]).nx (Nx.one _ (.cells #[.bool false, .bool false] 4)))
  have XQ := Lib.hid (bx_new (((w.alloc (.cells #[.bool false, .bool false, .bool true] 4)).alloc (.cells #[.bool true, .bool true] 4)).alloc (.cells #[.int .i64 0, .int .i64 0, .int .i64 0, .int .i64 0, .int .i64 3, .int .i64 0, .int .i64 1, .int .i64 0, .int .i64 11, .int .i64 1, .int .i64 0, .int .i64 0, .int .i64 12, .int .i64 1, .int .i64 1, .int .i64 0, .int .i64 16, .int .i64 0, .int .i64 0, .int .i64 0] 53)) 4 [.bool false, .bool false])
  rw [show (w.alloc (.cells #[.bool false, .bool false, .bool true] 4)).heap.size = w.heap.size + 1 by simp] at XI
  rw [show ((w.alloc (.cells #[.bool false, .bool false, .bool true] 4)).alloc (.cells #[.bool true, .bool true] 4)).heap.size = w.heap.size + 1 + 1 by simp] at XC
  rw [show (((w.alloc (.cells #[.bool false, .bool false, .bool true] 4)).alloc (.cells #[.bool true, .bool true] 4)).alloc (.cells #[.int .i64 0, .int .i64 0, .int .i64 0, .int .i64 0, .int .i64 3, .int .i64 0, .int .i64 1, .int .i64 0, .int .i64 11, .int .i64 1, .int .i64 0, .int .i64 0, .int .i64 12, .int .i64 1, .int .i64 1, .int .i64 0, .int .i64 16, .int .i64 0, .int .i64 0, .int .i64 0] 53)).heap.size = w.heap.size + 1 + 1 + 1 by simp] at XQ
  clear hA hR
  go_enter Try.func7, Try.ntmps7
  go_wp2_with fail
  clear hmk
  generalize ((((w.alloc (.cells #[.bool false, .bool false, .bool true] 4)).alloc (.cells #[.bool true, .bool true] 4)).alloc (.cells #[.int .i64 0, .int .i64 0, .int .i64 0, .int .i64 0, .int .i64 3, .int .i64 0, .int .i64 1, .int .i64 0, .int .i64 11, .int .i64 1, .int .i64 0, .int .i64 0, .int .i64 12, .int .i64 1, .int .i64 1, .int .i64 0, .int .i64 16, .int .i64 0, .int .i64 0, .int .i64 0] 53)).alloc (.cells #[.bool false, .bool false] 4)) = W at *
  refine (HR.out (boolCode 3) [true, true] [false, false] [] [] _ _ _ _ _ 5 2 2 2 2 0 0 0 0 W (by decide) (by decide) (by decide) (by decide) (by decide) (rdC_bx XC.out) (fun e => by cases e) (im_bx XI.out) (im_bx XQ.out) (im_nil W) (im_nil W)).mono ?_
  intro e w5 hp
  obtain ⟨B1, B2, B3, d1, d2, d3, rfl, i1, i2, i3, hn⟩ := runPost_cells hp
  have hrun : run (boolCode 3) [true, true] (mc0 [false, false] [] []) 0 = (⟨[false, true], [], [], 4, false, [], true, 0⟩, 5) := by kernel_rfl
  rw [hrun] at i1 ⊢
  obtain ⟨ad, e0, g0⟩ := i1.1 0 false rfl
  obtain ⟨ad', e1, g1⟩ := i1.1 1 true rfl
  subst e0
  obtain rfl := Option.some.inj e1
  have N5 := Lib.hid (N4.out.trans hn)
  have G0 := Lib.hid g0
  have G1 := Lib.hid g1
  clear hp i1 i2 i3 hn hrun g0 g1 e1
  simp only [List.length_cons, List.length_nil, Nat.zero_add, Nat.reduceAdd]
  go_wp2_with fail
  have k5 := Lib.hid (Nx.one w5 (.cells #[.slice (some ad) 2 d1, .slice B2 0 d2, .slice B3 0 d3, .int .i64 5, .int .i64 4, .int .i64 0] 30))
  have HY := Lib.hid (bx_new w5 30 [.slice (some ad) 2 d1, .slice B2 0 d2, .slice B3 0 d3, .int .i64 5, .int .i64 4, .int .i64 0])
  generalize w5.alloc (.cells #[.slice (some ad) 2 d1, .slice B2 0 d2, .slice B3 0 d3, .int .i64 5, .int .i64 4, .int .i64 0] 30) = W6 at *
  refine (HA.out W6).mono ?_
  rintro e w7 ⟨rfl, hn⟩
  have k7 := Lib.hid (k5.out.trans hn)
  have N7 := Lib.hid (N5.out.trans k7.out)
  have u0 := (HY.out.nx hn).cell 0 rfl
  have u5 := (HY.out.nx hn).cell 5 rfl
  have c0 := k7.out.cell G0.out
  rw [Addr.add_zero'] at c0
  have c1 : w7.cell? ⟨ad.block, ad.off + 1, none⟩ = _ := (congrArg w7.cell? (Addr.add_succ' ad 0)).symm.trans (k7.out.cell G1.out)
  clear hn k5 HY
  go_wp2_with fail
  go_ret
  exact ⟨rfl, N7.out⟩

set_option maxHeartbeats 3200000 in
set_option maxRecDepth 100000 in
theorem law6_bool_3tf (hR : RunOk) (hA : AlOk) (o : Int) (hk : o.tmod 6 = 3) (w : World) :
    Calls Try.prog 7 #[.bool true, .bool false, .int .u8 o] w fun e w' => e = .returned (.bool true) ∧ Nx w w' := by
  have HA := Lib.hid hA
  have HR := Lib.hid hR
  have hmk := make2
  have N4 := Lib.hid (show Nx w ((((w.alloc (.cells #[.bool true, .bool true, .bool true] 4)).alloc (.cells #[.bool true, .bool false] 4)).alloc (.cells #[.int .i64 0, .int .i64 0, .int .i64 0, .int .i64 0, .int .i64 3, .int .i64 0, .int .i64 1, .int .i64 0, .int .i64 11, .int .i64 1, .int .i64 0, .int .i64 0, .int .i64 12, .int .i64 1, .int .i64 1, .int .i64 0, .int .i64 16, .int .i64 0, .int .i64 0, .int .i64 0] 53)).alloc (.cells #[.bool false, .bool false] 4)) from (((Nx.one _ _).alloc _).alloc _).alloc _)
  have XI := Lib.hid (((bx_new (w.alloc (.cells #[.bool true, .bool true, .bool true] 4)) 4 [.bool true, .bool false]).nx (Nx.one _ (.cells #[.int .i64 0, .int .i64 0, .int .i64 0, .int .i64 0, .int .i64 3, .int .i64 0, .int .i64 1, .int .i64 0, .int .i64 11, .int .i64 1, .int .i64 0, .int .i64 0, .int .i64 12, .int .i64 1, .int .i64 1, .int .i64 0, .int .i64 16, .int .i64 0, .int .i64 0, .int .i64 0] 53))).nx (Nx.one _ (.cells #[.bool false, .bool false] 4)))
  have XC := Lib.hid ((bx_new ((w.alloc (.cells #[.bool true, .bool true, .bool true] 4)).alloc (.cells #[.bool true, .bool false] 4)) 53 [.int .i64 0, .int .i64 0, .int .i64 0, .int .i64 0, .int .i64 3, .int .i64 0, .int .i64 1, .int .i64 0, .int .i64 11, .int .i64 1, .int .i64 0, .int .i64 0, .int .i64 12, .int .i64 1, .int .i64 1, .int .i64 0, .int .i64 16, .int .i64 0, .int .i64 0, .int .i64 0]).nx (Nx.one _ (.cells #[.bool false, .bool false] 4)))
  have XQ := Lib.hid (bx_new (((w.alloc (.cells #[.bool true, .bool true, .bool true] 4)).alloc (.cells #[.bool true, .bool false] 4)).alloc (.cells #[.int .i64 0, .int .i64 0, .int .i64 0, .int .i64 0, .int .i64 3, .int .i64 0, .int .i64 1, .int .i64 0, .int .i64 11, .int .i64 1, .int .i64 0, .int .i64 0, .int .i64 12, .int .i64 1, .int .i64 1, .int .i64 0, .int .i64 16, .int .i64 0, .int .i64 0, .int .i64 0] 53)) 4 [.bool false, .bool false])
  rw [show (w.alloc (.cells #[.bool true, .bool true, .bool true] 4)).heap.size = w.heap.size + 1 by simp] at XI
  rw [show ((w.alloc (.cells #[.bool true, .bool true, .bool true] 4)).alloc (.cells #[.bool true, .bool false] 4)).heap.size = w.heap.size + 1 + 1 by simp] at XC
  rw [show (((w.alloc (.cells #[.bool true, .bool true, .bool true] 4)).alloc (.cells #[.bool true, .bool false] 4)).alloc (.cells #[.int .i64 0, .int .i64 0, .int .i64 0, .int .i64 0, .int .i64 3, .int .i64 0, .int .i64 1, .int .i64 0, .int .i64 11, .int .i64 1, .int .i64 0, .int .i64 0, .int .i64 12, .int .i64 1, .int .i64 1, .int .i64 0, .int .i64 16, .int .i64 0, .int .i64 0, .int .i64 0] 53)).heap.size = w.heap.size + 1 + 1 + 1 by simp] at XQ
  clear hA hR
  go_enter Try.func7, Try.ntmps7
  go_wp2_with fail
  clear hmk
  generalize ((((w.alloc (.cells #[.bool true, .bool true, .bool true] 4)).alloc (.cells #[.bool true, .bool false] 4)).alloc (.cells #[.int .i64 0, .int .i64 0, .int .i64 0, .int .i64 0, .int .i64 3, .int .i64 0, .int .i64 1, .int .i64 0, .int .i64 11, .int .i64 1, .int .i64 0, .int .i64 0, .int .i64 12, .int .i64 1, .int .i64 1, .int .i64 0, .int .i64 16, .int .i64 0, .int .i64 0, .int .i64 0] 53)).alloc (.cells #[.bool false, .bool false] 4)) = W at *
  refine (HR.out (boolCode 3) [true, false] [false, false] [] [] _ _ _ _ _ 5 2 2 2 2 0 0 0 0 W (by decide) (by decide) (by decide) (by decide) (by decide) (rdC_bx XC.out) (fun e => by cases e) (im_bx XI.out) (im_bx XQ.out) (im_nil W) (im_nil W)).mono ?_
  intro e w5 hp
  obtain ⟨B1, B2, B3, d1, d2, d3, rfl, i1, i2, i3, hn⟩ := runPost_cells hp
  have hrun : run (boolCode 3) [true, false] (mc0 [false, false] [] []) 0 = (⟨[true, false], [], [], 4, true, [], true, 0⟩, 5) := by kernel_rfl
  rw [hrun] at i1 ⊢
  obtain ⟨ad, e0, g0⟩ := i1.1 0 true rfl
  obtain ⟨ad', e1, g1⟩ := i1.1 1 false rfl
  subst e0
  obtain rfl := Option.some.inj e1
  have N5 := Lib.hid (N4.out.trans hn)
  have G0 := Lib.hid g0
  have G1 := Lib.hid g1
  clear hp i1 i2 i3 hn hrun g0 g1 e1
  simp only [List.length_cons, List.length_nil, Nat.zero_add, Nat.reduceAdd]
  go_wp2_with fail
  have k5 := Lib.hid (Nx.one w5 (.cells #[.slice (some ad) 2 d1, .slice B2 0 d2, .slice B3 0 d3, .int .i64 5, .int .i64 4, .int .i64 0] 30))
  have HY := Lib.hid (bx_new w5 30 [.slice (some ad) 2 d1, .slice B2 0 d2, .slice B3 0 d3, .int .i64 5, .int .i64 4, .int .i64 0])
  generalize w5.alloc (.cells #[.slice (some ad) 2 d1, .slice B2 0 d2, .slice B3 0 d3, .int .i64 5, .int .i64 4, .int .i64 0] 30) = W6 at *
  refine (HA.out W6).mono ?_
  rintro e w7 ⟨rfl, hn⟩
  have k7 := Lib.hid (k5.out.trans hn)
  have N7 := Lib.hid (N5.out.trans k7.out)
  have u0 := (HY.out.nx hn).cell 0 rfl
  have u5 := (HY.out.nx hn).cell 5 rfl
  have c0 := k7.out.cell G0.out
  rw [Addr.add_zero'] at c0
  have c1 : w7.cell? ⟨ad.block, ad.off + 1, none⟩ = _ := (congrArg w7.cell? (Addr.add_succ' ad 0)).symm.trans (k7.out.cell G1.out)
  clear hn k5 HY
  go_wp2_with fail
  go_ret
  exact ⟨rfl, N7.out⟩

set_option maxHeartbeats 3200000 in
set_option maxRecDepth 100000 in
theorem law6_bool_3ft (hR : RunOk) (hA : AlOk) (o : Int) (hk : o.tmod 6 = 3) (w : World) :
    Calls Try.prog 7 #[.bool false, .bool true, .int .u8 o] w fun e w' => e = .returned (.bool true) ∧ Nx w w' := by
  have HA := Lib.hid hA
  have HR := Lib.hid hR
  have hmk := make2
  have N4 := Lib.hid (show Nx w ((((w.alloc (.cells #[.bool false, .bool false, .bool false] 4)).alloc (.cells #[.bool false, .bool true] 4)).alloc (.cells #[.int .i64 0, .int .i64 0, .int .i64 0, .int .i64 0, .int .i64 3, .int .i64 0, .int .i64 1, .int .i64 0, .int .i64 11, .int .i64 1, .int .i64 0, .int .i64 0, .int .i64 12, .int .i64 1, .int .i64 1, .int .i64 0, .int .i64 16, .int .i64 0, .int .i64 0, .int .i64 0] 53)).alloc (.cells #[.bool false, .bool false] 4)) from (((Nx.one _ _).alloc _).alloc _).alloc _)
  have XI := Lib.hid (((bx_new (w.alloc (.cells #[.bool false, .bool false, .bool false] 4)) 4 [.bool false, .bool true]).nx (Nx.one _ (.cells #[.int .i64 0, .int .i64 0, .int .i64 0, .int .i64 0, .int .i64 3, .int .i64 0, .int .i64 1, .int .i64 0, .int .i64 11, .int .i64 1, .int .i64 0, .int .i64 0, .int .i64 12, .int .i64 1, .int .i64 1, .int .i64 0, .int .i64 16, .int .i64 0, .int .i64 0, .int .i64 0] 53))).nx (Nx.one _ (.cells #[.bool false, .bool false] 4)))
  have XC := Lib.hid ((bx_new ((w.alloc (.cells #[.bool false, .bool false, .bool false] 4)).alloc (.cells #[.bool false, .bool true] 4)) 53 [.int .i64 0, .int .i64 0, .int .i64 0, .int .i64 0, .int .i64 3, .int .i64 0, .int .i64 1, .int .i64 0, .int .i64 11, .int .i64 1, .int .i64 0, .int .i64 0, .int .i64 12, .int .i64 1, .int .i64 1, .int .i64 0, .int .i64 16, .int .i64 0, .int .i64 0, .int .i64 0]).nx (Nx.one _ (.cells #[.bool false, .bool false] 4)))
  have XQ := Lib.hid (bx_new (((w.alloc (.cells #[.bool false, .bool false, .bool false] 4)).alloc (.cells #[.bool false, .bool true] 4)).alloc (.cells #[.int .i64 0, .int .i64 0, .int .i64 0, .int .i64 0, .int .i64 3, .int .i64 0, .int .i64 1, .int .i64 0, .int .i64 11, .int .i64 1, .int .i64 0, .int .i64 0, .int .i64 12, .int .i64 1, .int .i64 1, .int .i64 0, .int .i64 16, .int .i64 0, .int .i64 0, .int .i64 0] 53)) 4 [.bool false, .bool false])
  rw [show (w.alloc (.cells #[.bool false, .bool false, .bool false] 4)).heap.size = w.heap.size + 1 by simp] at XI
  rw [show ((w.alloc (.cells #[.bool false, .bool false, .bool false] 4)).alloc (.cells #[.bool false, .bool true] 4)).heap.size = w.heap.size + 1 + 1 by simp] at XC
  rw [show (((w.alloc (.cells #[.bool false, .bool false, .bool false] 4)).alloc (.cells #[.bool false, .bool true] 4)).alloc (.cells #[.int .i64 0, .int .i64 0, .int .i64 0, .int .i64 0, .int .i64 3, .int .i64 0, .int .i64 1, .int .i64 0, .int .i64 11, .int .i64 1, .int .i64 0, .int .i64 0, .int .i64 12, .int .i64 1, .int .i64 1, .int .i64 0, .int .i64 16, .int .i64 0, .int .i64 0, .int .i64 0] 53)).heap.size = w.heap.size + 1 + 1 + 1 by simp] at XQ
  clear hA hR
  go_enter Try.func7, Try.ntmps7
  go_wp2_with fail
  clear hmk
  generalize ((((w.alloc (.cells #[.bool false, .bool false, .bool false] 4)).alloc (.cells #[.bool false, .bool true] 4)).alloc (.cells #[.int .i64 0, .int .i64 0, .int .i64 0, .int .i64 0, .int .i64 3, .int .i64 0, .int .i64 1, .int .i64 0, .int .i64 11, .int .i64 1, .int .i64 0, .int .i64 0, .int .i64 12, .int .i64 1, .int .i64 1, .int .i64 0, .int .i64 16, .int .i64 0, .int .i64 0, .int .i64 0] 53)).alloc (.cells #[.bool false, .bool false] 4)) = W at *
  refine (HR.out (boolCode 3) [false, true] [false, false] [] [] _ _ _ _ _ 5 2 2 2 2 0 0 0 0 W (by decide) (by decide) (by decide) (by decide) (by decide) (rdC_bx XC.out) (fun e => by cases e) (im_bx XI.out) (im_bx XQ.out) (im_nil W) (im_nil W)).mono ?_
  intro e w5 hp
  obtain ⟨B1, B2, B3, d1, d2, d3, rfl, i1, i2, i3, hn⟩ := runPost_cells hp
  have hrun : run (boolCode 3) [false, true] (mc0 [false, false] [] []) 0 = (⟨[false, true], [], [], 4, false, [], true, 0⟩, 5) := by kernel_rfl
  rw [hrun] at i1 ⊢
  obtain ⟨ad, e0, g0⟩ := i1.1 0 false rfl
  obtain ⟨ad', e1, g1⟩ := i1.1 1 true rfl
  subst e0
  obtain rfl := Option.some.inj e1
  have N5 := Lib.hid (N4.out.trans hn)
  have G0 := Lib.hid g0
  have G1 := Lib.hid g1
  clear hp i1 i2 i3 hn hrun g0 g1 e1
  simp only [List.length_cons, List.length_nil, Nat.zero_add, Nat.reduceAdd]
  go_wp2_with fail
  have k5 := Lib.hid (Nx.one w5 (.cells #[.slice (some ad) 2 d1, .slice B2 0 d2, .slice B3 0 d3, .int .i64 5, .int .i64 4, .int .i64 0] 30))
  have HY := Lib.hid (bx_new w5 30 [.slice (some ad) 2 d1, .slice B2 0 d2, .slice B3 0 d3, .int .i64 5, .int .i64 4, .int .i64 0])
  generalize w5.alloc (.cells #[.slice (some ad) 2 d1, .slice B2 0 d2, .slice B3 0 d3, .int .i64 5, .int .i64 4, .int .i64 0] 30) = W6 at *
  refine (HA.out W6).mono ?_
  rintro e w7 ⟨rfl, hn⟩
  have k7 := Lib.hid (k5.out.trans hn)
  have N7 := Lib.hid (N5.out.trans k7.out)
  have u0 := (HY.out.nx hn).cell 0 rfl
  have u5 := (HY.out.nx hn).cell 5 rfl
  have c0 := k7.out.cell G0.out
  rw [Addr.add_zero'] at c0
  have c1 : w7.cell? ⟨ad.block, ad.off + 1, none⟩ = _ := (congrArg w7.cell? (Addr.add_succ' ad 0)).symm.trans (k7.out.cell G1.out)
  clear hn k5 HY
  go_wp2_with fail
  go_ret
  exact ⟨rfl, N7.out⟩

set_option maxHeartbeats 3200000 in
set_option maxRecDepth 100000 in
theorem law6_bool_3ff (hR : RunOk) (hA : AlOk) (o : Int) (hk : o.tmod 6 = 3) (w : World) :
    Calls Try.prog 7 #[.bool false, .bool false, .int .u8 o] w fun e w' => e = .returned (.bool true) ∧ Nx w w' := by
  have HA := Lib.hid hA
  have HR := Lib.hid hR
  have hmk := make2
  have N4 := Lib.hid (show Nx w ((((w.alloc (.cells #[.bool true, .bool false, .bool true] 4)).alloc (.cells #[.bool false, .bool false] 4)).alloc (.cells #[.int .i64 0, .int .i64 0, .int .i64 0, .int .i64 0, .int .i64 3, .int .i64 0, .int .i64 1, .int .i64 0, .int .i64 11, .int .i64 1, .int .i64 0, .int .i64 0, .int .i64 12, .int .i64 1, .int .i64 1, .int .i64 0, .int .i64 16, .int .i64 0, .int .i64 0, .int .i64 0] 53)).alloc (.cells #[.bool false, .bool false] 4)) from (((Nx.one _ _).alloc _).alloc _).alloc _)
  have XI := Lib.hid (((bx_new (w.alloc (.cells #[.bool true, .bool false, .bool true] 4)) 4 [.bool false, .bool false]).nx (Nx.one _ (.cells #[.int .i64 0, .int .i64 0, .int .i64 0, .int .i64 0, .int .i64 3, .int .i64 0, .int .i64 1, .int .i64 0, .int .i64 11, .int .i64 1, .int .i64 0, .int .i64 0, .int .i64 12, .int .i64 1, .int .i64 1, .int .i64 0, .int .i64 16, .int .i64 0, .int .i64 0, .int .i64 0] 53))).nx (Nx.one _ (.cells #[.bool false, .bool false] 4)))
  have XC := Lib.hid ((bx_new ((w.alloc (.cells #[.bool true, .bool false, .bool true] 4)).alloc (.cells #[.bool false, .bool false] 4)) 53 [.int .i64 0, .int .i64 0, .int .i64 0, .int .i64 0, .int .i64 3, .int .i64 0, .int .i64 1, .int .i64 0, .int .i64 11, .int .i64 1, .int .i64 0, .int .i64 0, .int .i64 12, .int .i64 1, .int .i64 1, .int .i64 0, .int .i64 16, .int .i64 0, .int .i64 0, .int .i64 0]).nx (Nx.one _ (.cells #[.bool false, .bool false] 4)))
  have XQ := Lib.hid (bx_new (((w.alloc (.cells #[.bool true, .bool false, .bool true] 4)).alloc (.cells #[.bool false, .bool false] 4)).alloc (.cells #[.int .i64 0, .int .i64 0, .int .i64 0, .int .i64 0, .int .i64 3, .int .i64 0, .int .i64 1, .int .i64 0, .int .i64 11, .int .i64 1, .int .i64 0, .int .i64 0, .int .i64 12, .int .i64 1, .int .i64 1, .int .i64 0, .int .i64 16, .int .i64 0, .int .i64 0, .int .i64 0] 53)) 4 [.bool false, .bool false])
  rw [show (w.alloc (.cells #[.bool true, .bool false, .bool true] 4)).heap.size = w.heap.size + 1 by simp] at XI
  rw [show ((w.alloc (.cells #[.bool true, .bool false, .bool true] 4)).alloc (.cells #[.bool false, .bool false] 4)).heap.size = w.heap.size + 1 + 1 by simp] at XC
  rw [show (((w.alloc (.cells #[.bool true, .bool false, .bool true] 4)).alloc (.cells #[.bool false, .bool false] 4)).alloc (.cells #[.int .i64 0, .int .i64 0, .int .i64 0, .int .i64 0, .int .i64 3, .int .i64 0, .int .i64 1, .int .i64 0, .int .i64 11, .int .i64 1, .int .i64 0, .int .i64 0, .int .i64 12, .int .i64 1, .int .i64 1, .int .i64 0, .int .i64 16, .int .i64 0, .int .i64 0, .int .i64 0] 53)).heap.size = w.heap.size + 1 + 1 + 1 by simp] at XQ
  clear hA hR
  go_enter Try.func7, Try.ntmps7
  go_wp2_with fail
  clear hmk
  generalize ((((w.alloc (.cells #[.bool true, .bool false, .bool true] 4)).alloc (.cells #[.bool false, .bool false] 4)).alloc (.cells #[.int .i64 0, .int .i64 0, .int .i64 0, .int .i64 0, .int .i64 3, .int .i64 0, .int .i64 1, .int .i64 0, .int .i64 11, .int .i64 1, .int .i64 0, .int .i64 0, .int .i64 12, .int .i64 1, .int .i64 1, .int .i64 0, .int .i64 16, .int .i64 0, .int .i64 0, .int .i64 0] 53)).alloc (.cells #[.bool false, .bool false] 4)) = W at *
  refine (HR.out (boolCode 3) [false, false] [false, false] [] [] _ _ _ _ _ 5 2 2 2 2 0 0 0 0 W (by decide) (by decide) (by decide) (by decide) (by decide) (rdC_bx XC.out) (fun e => by cases e) (im_bx XI.out) (im_bx XQ.out) (im_nil W) (im_nil W)).mono ?_
  intro e w5 hp
  obtain ⟨B1, B2, B3, d1, d2, d3, rfl, i1, i2, i3, hn⟩ := runPost_cells hp
  have hrun : run (boolCode 3) [false, false] (mc0 [false, false] [] []) 0 = (⟨[false, true], [], [], 4, false, [], true, 0⟩, 5) := by kernel_rfl
  rw [hrun] at i1 ⊢
  obtain ⟨ad, e0, g0⟩ := i1.1 0 false rfl
  obtain ⟨ad', e1, g1⟩ := i1.1 1 true rfl
  subst e0
  obtain rfl := Option.some.inj e1
  have N5 := Lib.hid (N4.out.trans hn)
  have G0 := Lib.hid g0
  have G1 := Lib.hid g1
  clear hp i1 i2 i3 hn hrun g0 g1 e1
  simp only [List.length_cons, List.length_nil, Nat.zero_add, Nat.reduceAdd]
  go_wp2_with fail
  have k5 := Lib.hid (Nx.one w5 (.cells #[.slice (some ad) 2 d1, .slice B2 0 d2, .slice B3 0 d3, .int .i64 5, .int .i64 4, .int .i64 0] 30))
  have HY := Lib.hid (bx_new w5 30 [.slice (some ad) 2 d1, .slice B2 0 d2, .slice B3 0 d3, .int .i64 5, .int .i64 4, .int .i64 0])
  generalize w5.alloc (.cells #[.slice (some ad) 2 d1, .slice B2 0 d2, .slice B3 0 d3, .int .i64 5, .int .i64 4, .int .i64 0] 30) = W6 at *
  refine (HA.out W6).mono ?_
  rintro e w7 ⟨rfl, hn⟩
  have k7 := Lib.hid (k5.out.trans hn)
  have N7 := Lib.hid (N5.out.trans k7.out)
  have u0 := (HY.out.nx hn).cell 0 rfl
  have u5 := (HY.out.nx hn).cell 5 rfl
  have c0 := k7.out.cell G0.out
  rw [Addr.add_zero'] at c0
  have c1 : w7.cell? ⟨ad.block, ad.off + 1, none⟩ = _ := (congrArg w7.cell? (Addr.add_succ' ad 0)).symm.trans (k7.out.cell G1.out)
  clear hn k5 HY
  go_wp2_with fail
  go_ret
  exact ⟨rfl, N7.out⟩

set_option maxHeartbeats 3200000 in
set_option maxRecDepth 100000 in
theorem law6_bool_4tt (hR : RunOk) (hA : AlOk) (o : Int) (hk : o.tmod 6 = 4) (w : World) :
    Calls Try.prog 7 #[.bool true, .bool true, .int .u8 o] w fun e w' => e = .returned (.bool true) ∧ Nx w w' := by
  have HA := Lib.hid hA
  have HR := Lib.hid hR
  have hmk := make2
  have N4 := Lib.hid (show Nx w ((((w.alloc (.cells #[.bool true, .bool true, .bool true] 4)).alloc (.cells #[.bool true, .bool true] 4)).alloc (.cells #[.int .i64 0, .int .i64 0, .int .i64 0, .int .i64 0, .int .i64 4, .int .i64 0, .int .i64 1, .int .i64 0, .int .i64 11, .int .i64 1, .int .i64 0, .int .i64 0, .int .i64 12, .int .i64 1, .int .i64 1, .int .i64 0, .int .i64 16, .int .i64 0, .int .i64 0, .int .i64 0] 53)).alloc (.cells #[.bool false, .bool false] 4)) from (((Nx.one _ _).alloc _).alloc _).alloc _)
  have XI := Lib.hid (((bx_new (w.alloc (.cells #[.bool true, .bool true, .bool true] 4)) 4 [.bool true, .bool true]).nx (Nx.one _ (.cells #[.int .i64 0, .int .i64 0, .int .i64 0, .int .i64 0, .int .i64 4, .int .i64 0, .int .i64 1, .int .i64 0, .int .i64 11, .int .i64 1, .int .i64 0, .int .i64 0, .int .i64 12, .int .i64 1, .int .i64 1, .int .i64 0, .int .i64 16, .int .i64 0, .int .i64 0, .int .i64 0] 53))).nx (Nx.one _ (.cells #[.bool false, .bool false] 4)))
  have XC := Lib.hid ((bx_new ((w.alloc (.cells #[.bool true, .bool true, .bool true] 4)).alloc (.cells #[.bool true, .bool true] 4)) 53 [.int .i64 0, .int .i64 0, .int .i64 0, .int .i64 0, .int .i64 4, .int .i64 0, .int .i64 1, .int .i64 0, .int .i64 11, .int .i64 1, .int .i64 0, .int .i64 0, .int .i64 12, .int .i64 1, .int .i64 1, .int .i64 0, .int .i64 16, .int .i64 0, .int .i64 0, .int .i64 0]).nx (Nx.one _ (.cells #[.bool false, .bool false] 4)))
  have XQ := Lib.hid (bx_new (((w.alloc (.cells #[.bool true, .bool true, .bool true] 4)).alloc (.cells #[.bool true, .bool true] 4)).alloc (.cells #[.int .i64 0, .int .i64 0, .int .i64 0, .int .i64 0, .int .i64 4, .int .i64 0, .int .i64 1, .int .i64 0, .int .i64 11, .int .i64 1, .int .i64 0, .int .i64 0, .int .i64 12, .int .i64 1, .int .i64 1, .int .i64 0, .int .i64 16, .int .i64 0, .int .i64 0, .int .i64 0] 53)) 4 [.bool false, .bool false])
  rw [show (w.alloc (.cells #[.bool true, .bool true, .bool true] 4)).heap.size = w.heap.size + 1 by simp] at XI
  rw [show ((w.alloc (.cells #[.bool true, .bool true, .bool true] 4)).alloc (.cells #[.bool true, .bool true] 4)).heap.size = w.heap.size + 1 + 1 by simp] at XC
  rw [show (((w.alloc (.cells #[.bool true, .bool true, .bool true] 4)).alloc (.cells #[.bool true, .bool true] 4)).alloc (.cells #[.int .i64 0, .int .i64 0, .int .i64 0, .int .i64 0, .int .i64 4, .int .i64 0, .int .i64 1, .int .i64 0, .int .i64 11, .int .i64 1, .int .i64 0, .int .i64 0, .int .i64 12, .int .i64 1, .int .i64 1, .int .i64 0, .int .i64 16, .int .i64 0, .int .i64 0, .int .i64 0] 53)).heap.size = w.heap.size + 1 + 1 + 1 by simp] at XQ
  clear hA hR
  go_enter Try.func7, Try.ntmps7
  go_wp2_with fail
  clear hmk
  generalize ((((w.alloc (.cells #[.bool true, .bool true, .bool true] 4)).alloc (.cells #[.bool true, .bool true] 4)).alloc (.cells #[.int .i64 0, .int .i64 0, .int .i64 0, .int .i64 0, .int .i64 4, .int .i64 0, .int .i64 1, .int .i64 0, .int .i64 11, .int .i64 1, .int .i64 0, .int .i64 0, .int .i64 12, .int .i64 1, .int .i64 1, .int .i64 0, .int .i64 16, .int .i64 0, .int .i64 0, .int .i64 0] 53)).alloc (.cells #[.bool false, .bool false] 4)) = W at *
  refine (HR.out (boolCode 4) [true, true] [false, false] [] [] _ _ _ _ _ 5 2 2 2 2 0 0 0 0 W (by decide) (by decide) (by decide) (by decide) (by decide) (rdC_bx XC.out) (fun e => by cases e) (im_bx XI.out) (im_bx XQ.out) (im_nil W) (im_nil W)).mono ?_
  intro e w5 hp
  obtain ⟨B1, B2, B3, d1, d2, d3, rfl, i1, i2, i3, hn⟩ := runPost_cells hp
  have hrun : run (boolCode 4) [true, true] (mc0 [false, false] [] []) 0 = (⟨[true, false], [], [], 4, true, [], true, 0⟩, 5) := by kernel_rfl
  rw [hrun] at i1 ⊢
  obtain ⟨ad, e0, g0⟩ := i1.1 0 true rfl
  obtain ⟨ad', e1, g1⟩ := i1.1 1 false rfl
  subst e0
  obtain rfl := Option.some.inj e1
  have N5 := Lib.hid (N4.out.trans hn)
  have G0 := Lib.hid g0
  have G1 := Lib.hid g1
  clear hp i1 i2 i3 hn hrun g0 g1 e1
  simp only [List.length_cons, List.length_nil, Nat.zero_add, Nat.reduceAdd]
  go_wp2_with fail
  have k5 := Lib.hid (Nx.one w5 (.cells #[.slice (some ad) 2 d1, .slice B2 0 d2, .slice B3 0 d3, .int .i64 5, .int .i64 4, .int .i64 0] 30))
  have HY := Lib.hid (bx_new w5 30 [.slice (some ad) 2 d1, .slice B2 0 d2, .slice B3 0 d3, .int .i64 5, .int .i64 4, .int .i64 0])
  generalize w5.alloc (.cells #[.slice (some ad) 2 d1, .slice B2 0 d2, .slice B3 0 d3, .int .i64 5, .int .i64 4, .int .i64 0] 30) = W6 at *
  refine (HA.out W6).mono ?_
  rintro e w7 ⟨rfl, hn⟩
  have k7 := Lib.hid (k5.out.trans hn)
  have N7 := Lib.hid (N5.out.trans k7.out)
  have u0 := (HY.out.nx hn).cell 0 rfl
  have u5 := (HY.out.nx hn).cell 5 rfl
  have c0 := k7.out.cell G0.out
  rw [Addr.add_zero'] at c0
  have c1 : w7.cell? ⟨ad.block, ad.off + 1, none⟩ = _ := (congrArg w7.cell? (Addr.add_succ' ad 0)).symm.trans (k7.out.cell G1.out)
  clear hn k5 HY
  go_wp2_with fail
  go_ret
  exact ⟨rfl, N7.out⟩

set_option maxHeartbeats 3200000 in
set_option maxRecDepth 100000 in
theorem law6_bool_4tf (hR : RunOk) (hA : AlOk) (o : Int) (hk : o.tmod 6 = 4) (w : World) :
    Calls Try.prog 7 #[.bool true, .bool false, .int .u8 o] w fun e w' => e = .returned (.bool true) ∧ Nx w w' := by
  have HA := Lib.hid hA
  have HR := Lib.hid hR
  have hmk := make2
  have N4 := Lib.hid (show Nx w ((((w.alloc (.cells #[.bool false, .bool false, .bool true] 4)).alloc (.cells #[.bool true, .bool false] 4)).alloc (.cells #[.int .i64 0, .int .i64 0, .int .i64 0, .int .i64 0, .int .i64 4, .int .i64 0, .int .i64 1, .int .i64 0, .int .i64 11, .int .i64 1, .int .i64 0, .int .i64 0, .int .i64 12, .int .i64 1, .int .i64 1, .int .i64 0, .int .i64 16, .int .i64 0, .int .i64 0, .int .i64 0] 53)).alloc (.cells #[.bool false, .bool false] 4)) from (((Nx.one _ _).alloc _).alloc _).alloc _)
  have XI := Lib.hid (((bx_new (w.alloc (.cells #[.bool false, .bool false, .bool true] 4)) 4 [.bool true, .bool false]).nx (Nx.one _ (.cells #[.int .i64 0, .int .i64 0, .int .i64 0, .int .i64 0, .int .i64 4, .int .i64 0, .int .i64 1, .int .i64 0, .int .i64 11, .int .i64 1, .int .i64 0, .int .i64 0, .int .i64 12, .int .i64 1, .int .i64 1, .int .i64 0, .int .i64 16, .int .i64 0, .int .i64 0, .int .i64 0] 53))).nx (Nx.one _ (.cells #[.bool false, .bool false] 4)))
  have XC := Lib.hid ((bx_new ((w.alloc (.cells #[.bool false, .bool false, .bool true] 4)).alloc (.cells #[.bool true, .bool false] 4)) 53 [.int .i64 0, .int .i64 0, .int .i64 0, .int .i64 0, .int .i64 4, .int .i64 0, .int .i64 1, .int .i64 0, .int .i64 11, .int .i64 1, .int .i64 0, .int .i64 0, .int .i64 12, .int .i64 1, .int .i64 1, .int .i64 0, .int .i64 16, .int .i64 0, .int .i64 0, .int .i64 0]).nx (Nx.one _ (.cells #[.bool false, .bool false] 4)))
  have XQ := Lib.hid (bx_new (((w.alloc (.cells #[.bool false, .bool false, .bool true] 4)).alloc (.cells #[.bool true, .bool false] 4)).alloc (.cells #[.int .i64 0, .int .i64 0, .int .i64 0, .int .i64 0, .int .i64 4, .int .i64 0, .int .i64 1, .int .i64 0, .int .i64 11, .int .i64 1, .int .i64 0, .int .i64 0, .int .i64 12, .int .i64 1, .int .i64 1, .int .i64 0, .int .i64 16, .int .i64 0, .int .i64 0, .int .i64 0] 53)) 4 [.bool false, .bool false])
  rw [show (w.alloc (.cells #[.bool false, .bool false, .bool true] 4)).heap.size = w.heap.size + 1 by simp] at XI
  rw [show ((w.alloc (.cells #[.bool false, .bool false, .bool true] 4)).alloc (.cells #[.bool true, .bool false] 4)).heap.size = w.heap.size + 1 + 1 by simp] at XC
  rw [show (((w.alloc (.cells #[.bool false, .bool false, .bool true] 4)).alloc (.cells #[.bool true, .bool false] 4)).alloc (.cells #[.int .i64 0, .int .i64 0, .int .i64 0, .int .i64 0, .int .i64 4, .int .i64 0, .int .i64 1, .int .i64 0, .int .i64 11, .int .i64 1, .int .i64 0, .int .i64 0, .int .i64 12, .int .i64 1, .int .i64 1, .int .i64 0, .int .i64 16, .int .i64 0, .int .i64 0, .int .i64 0] 53)).heap.size = w.heap.size + 1 + 1 + 1 by simp] at XQ
  clear hA hR
  go_enter Try.func7, Try.ntmps7
  go_wp2_with fail
  clear hmk
  generalize ((((w.alloc (.cells #[.bool false, .bool false, .bool true] 4)).alloc (.cells #[.bool true, .bool false] 4)).alloc (.cells #[.int .i64 0, .int .i64 0, .int .i64 0, .int .i64 0, .int .i64 4, .int .i64 0, .int .i64 1, .int .i64 0, .int .i64 11, .int .i64 1, .int .i64 0, .int .i64 0, .int .i64 12, .int .i64 1, .int .i64 1, .int .i64 0, .int .i64 16, .int .i64 0, .int .i64 0, .int .i64 0] 53)).alloc (.cells #[.bool false, .bool false] 4)) = W at *
  refine (HR.out (boolCode 4) [true, false] [false, false] [] [] _ _ _ _ _ 5 2 2 2 2 0 0 0 0 W (by decide) (by decide) (by decide) (by decide) (by decide) (rdC_bx XC.out) (fun e => by cases e) (im_bx XI.out) (im_bx XQ.out) (im_nil W) (im_nil W)).mono ?_
  intro e w5 hp
  obtain ⟨B1, B2, B3, d1, d2, d3, rfl, i1, i2, i3, hn⟩ := runPost_cells hp
  have hrun : run (boolCode 4) [true, false] (mc0 [false, false] [] []) 0 = (⟨[true, false], [], [], 4, true, [], true, 0⟩, 5) := by kernel_rfl
  rw [hrun] at i1 ⊢
  obtain ⟨ad, e0, g0⟩ := i1.1 0 true rfl
  obtain ⟨ad', e1, g1⟩ := i1.1 1 false rfl
  subst e0
  obtain rfl := Option.some.inj e1
  have N5 := Lib.hid (N4.out.trans hn)
  have G0 := Lib.hid g0
  have G1 := Lib.hid g1
  clear hp i1 i2 i3 hn hrun g0 g1 e1
  simp only [List.length_cons, List.length_nil, Nat.zero_add, Nat.reduceAdd]
  go_wp2_with fail
  have k5 := Lib.hid (Nx.one w5 (.cells #[.slice (some ad) 2 d1, .slice B2 0 d2, .slice B3 0 d3, .int .i64 5, .int .i64 4, .int .i64 0] 30))
  have HY := Lib.hid (bx_new w5 30 [.slice (some ad) 2 d1, .slice B2 0 d2, .slice B3 0 d3, .int .i64 5, .int .i64 4, .int .i64 0])
  generalize w5.alloc (.cells #[.slice (some ad) 2 d1, .slice B2 0 d2, .slice B3 0 d3, .int .i64 5, .int .i64 4, .int .i64 0] 30) = W6 at *
  refine (HA.out W6).mono ?_
  rintro e w7 ⟨rfl, hn⟩
  have k7 := Lib.hid (k5.out.trans hn)
  have N7 := Lib.hid (N5.out.trans k7.out)
  have u0 := (HY.out.nx hn).cell 0 rfl
  have u5 := (HY.out.nx hn).cell 5 rfl
  have c0 := k7.out.cell G0.out
  rw [Addr.add_zero'] at c0
  have c1 : w7.cell? ⟨ad.block, ad.off + 1, none⟩ = _ := (congrArg w7.cell? (Addr.add_succ' ad 0)).symm.trans (k7.out.cell G1.out)
  clear hn k5 HY
  go_wp2_with fail
  go_ret
  exact ⟨rfl, N7.out⟩

set_option maxHeartbeats 3200000 in
set_option maxRecDepth 100000 in
theorem law6_bool_4ft (hR : RunOk) (hA : AlOk) (o : Int) (hk : o.tmod 6 = 4) (w : World) :
    Calls Try.prog 7 #[.bool false, .bool true, .int .u8 o] w fun e w' => e = .returned (.bool true) ∧ Nx w w' := by
  have HA := Lib.hid hA
  have HR := Lib.hid hR
  have hmk := make2
  have N4 := Lib.hid (show Nx w ((((w.alloc (.cells #[.bool true, .bool false, .bool true] 4)).alloc (.cells #[.bool false, .bool true] 4)).alloc (.cells #[.int .i64 0, .int .i64 0, .int .i64 0, .int .i64 0, .int .i64 4, .int .i64 0, .int .i64 1, .int .i64 0, .int .i64 11, .int .i64 1, .int .i64 0, .int .i64 0, .int .i64 12, .int .i64 1, .int .i64 1, .int .i64 0, .int .i64 16, .int .i64 0, .int .i64 0, .int .i64 0] 53)).alloc (.cells #[.bool false, .bool false] 4)) from (((Nx.one _ _).alloc _).alloc _).alloc _)
  have XI := Lib.hid (((bx_new (w.alloc (.cells #[.bool true, .bool false, .bool true] 4)) 4 [.bool false, .bool true]).nx (Nx.one _ (.cells #[.int .i64 0, .int .i64 0, .int .i64 0, .int .i64 0, .int .i64 4, .int .i64 0, .int .i64 1, .int .i64 0, .int .i64 11, .int .i64 1, .int .i64 0, .int .i64 0, .int .i64 12, .int .i64 1, .int .i64 1, .int .i64 0, .int .i64 16, .int .i64 0, .int .i64 0, .int .i64 0] 53))).nx (Nx.one _ (.cells #[.bool false, .bool false] 4)))
  have XC := Lib.hid ((bx_new ((w.alloc (.cells #[.bool true, .bool false, .bool true] 4)).alloc (.cells #[.bool false, .bool true] 4)) 53 [.int .i64 0, .int .i64 0, .int .i64 0, .int .i64 0, .int .i64 4, .int .i64 0, .int .i64 1, .int .i64 0, .int .i64 11, .int .i64 1, .int .i64 0, .int .i64 0, .int .i64 12, .int .i64 1, .int .i64 1, .int .i64 0, .int .i64 16, .int .i64 0, .int .i64 0, .int .i64 0]).nx (Nx.one _ (.cells #[.bool false, .bool false] 4)))
  have XQ := Lib.hid (bx_new (((w.alloc (.cells #[.bool true, .bool false, .bool true] 4)).alloc (.cells #[.bool false, .bool true] 4)).alloc (.cells #[.int .i64 0, .int .i64 0, .int .i64 0, .int .i64 0, .int .i64 4, .int .i64 0, .int .i64 1, .int .i64 0, .int .i64 11, .int .i64 1, .int .i64 0, .int .i64 0, .int .i64 12, .int .i64 1, .int .i64 1, .int .i64 0, .int .i64 16, .int .i64 0, .int .i64 0, .int .i64 0] 53)) 4 [.bool false, .bool false])
  rw [show (w.alloc (.cells #[.bool true, .bool false, .bool true] 4)).heap.size = w.heap.size + 1 by simp] at XI
  rw [show ((w.alloc (.cells #[.bool true, .bool false, .bool true] 4)).alloc (.cells #[.bool false, .bool true] 4)).heap.size = w.heap.size + 1 + 1 by simp] at XC
  rw [show (((w.alloc (.cells #[.bool true, .bool false, .bool true] 4)).alloc (.cells #[.bool false, .bool true] 4)).alloc (.cells #[.int .i64 0, .int .i64 0, .int .i64 0, .int .i64 0, .int .i64 4, .int .i64 0, .int .i64 1, .int .i64 0, .int .i64 11, .int .i64 1, .int .i64 0, .int .i64 0, .int .i64 12, .int .i64 1, .int .i64 1, .int .i64 0, .int .i64 16, .int .i64 0, .int .i64 0, .int .i64 0] 53)).heap.size = w.heap.size + 1 + 1 + 1 by simp] at XQ
  clear hA hR
  go_enter Try.func7, Try.ntmps7
  go_wp2_with fail
  clear hmk
  generalize ((((w.alloc (.cells #[.bool true, .bool false, .bool true] 4)).alloc (.cells #[.bool false, .bool true] 4)).alloc (.cells #[.int .i64 0, .int .i64 0, .int .i64 0, .int .i64 0, .int .i64 4, .int .i64 0, .int .i64 1, .int .i64 0, .int .i64 11, .int .i64 1, .int .i64 0, .int .i64 0, .int .i64 12, .int .i64 1, .int .i64 1, .int .i64 0, .int .i64 16, .int .i64 0, .int .i64 0, .int .i64 0] 53)).alloc (.cells #[.bool false, .bool false] 4)) = W at *
  refine (HR.out (boolCode 4) [false, true] [false, false] [] [] _ _ _ _ _ 5 2 2 2 2 0 0 0 0 W (by decide) (by decide) (by decide) (by decide) (by decide) (rdC_bx XC.out) (fun e => by cases e) (im_bx XI.out) (im_bx XQ.out) (im_nil W) (im_nil W)).mono ?_
  intro e w5 hp
  obtain ⟨B1, B2, B3, d1, d2, d3, rfl, i1, i2, i3, hn⟩ := runPost_cells hp
  have hrun : run (boolCode 4) [false, true] (mc0 [false, false] [] []) 0 = (⟨[true, false], [], [], 4, true, [], true, 0⟩, 5) := by kernel_rfl
  rw [hrun] at i1 ⊢
  obtain ⟨ad, e0, g0⟩ := i1.1 0 true rfl
  obtain ⟨ad', e1, g1⟩ := i1.1 1 false rfl
  subst e0
  obtain rfl := Option.some.inj e1
  have N5 := Lib.hid (N4.out.trans hn)
  have G0 := Lib.hid g0
  have G1 := Lib.hid g1
  clear hp i1 i2 i3 hn hrun g0 g1 e1
  simp only [List.length_cons, List.length_nil, Nat.zero_add, Nat.reduceAdd]
  go_wp2_with fail
  have k5 := Lib.hid (Nx.one w5 (.cells #[.slice (some ad) 2 d1, .slice B2 0 d2, .slice B3 0 d3, .int .i64 5, .int .i64 4, .int .i64 0] 30))
  have HY := Lib.hid (bx_new w5 30 [.slice (some ad) 2 d1, .slice B2 0 d2, .slice B3 0 d3, .int .i64 5, .int .i64 4, .int .i64 0])
  generalize w5.alloc (.cells #[.slice (some ad) 2 d1, .slice B2 0 d2, .slice B3 0 d3, .int .i64 5, .int .i64 4, .int .i64 0] 30) = W6 at *
  refine (HA.out W6).mono ?_
  rintro e w7 ⟨rfl, hn⟩
  have k7 := Lib.hid (k5.out.trans hn)
  have N7 := Lib.hid (N5.out.trans k7.out)
  have u0 := (HY.out.nx hn).cell 0 rfl
  have u5 := (HY.out.nx hn).cell 5 rfl
  have c0 := k7.out.cell G0.out
  rw [Addr.add_zero'] at c0
  have c1 : w7.cell? ⟨ad.block, ad.off + 1, none⟩ = _ := (congrArg w7.cell? (Addr.add_succ' ad 0)).symm.trans (k7.out.cell G1.out)
  clear hn k5 HY
  go_wp2_with fail
  go_ret
  exact ⟨rfl, N7.out⟩

set_option maxHeartbeats 3200000 in
set_option maxRecDepth 100000 in
theorem law6_bool_4ff (hR : RunOk) (hA : AlOk) (o : Int) (hk : o.tmod 6 = 4) (w : World) :
    Calls Try.prog 7 #[.bool false, .bool false, .int .u8 o] w fun e w' => e = .returned (.bool true) ∧ Nx w w' := by
  have HA := Lib.hid hA
  have HR := Lib.hid hR
  have hmk := make2
  have N4 := Lib.hid (show Nx w ((((w.alloc (.cells #[.bool false, .bool false, .bool false] 4)).alloc (.cells #[.bool false, .bool false] 4)).alloc (.cells #[.int .i64 0, .int .i64 0, .int .i64 0, .int .i64 0, .int .i64 4, .int .i64 0, .int .i64 1, .int .i64 0, .int .i64 11, .int .i64 1, .int .i64 0, .int .i64 0, .int .i64 12, .int .i64 1, .int .i64 1, .int .i64 0, .int .i64 16, .int .i64 0, .int .i64 0, .int .i64 0] 53)).alloc (.cells #[.bool false, .bool false] 4)) from (((Nx.one _ _).alloc _).alloc _).alloc _)
  have XI := Lib.hid (((bx_new (w.alloc (.cells #[.bool false, .bool false, .bool false] 4)) 4 [.bool false, .bool false]).nx (Nx.one _ (.cells #[.int .i64 0, .int .i64 0, .int .i64 0, .int .i64 0, .int .i64 4, .int .i64 0, .int .i64 1, .int .i64 0, .int .i64 11, .int .i64 1, .int .i64 0, .int .i64 0, .int .i64 12, .int .i64 1, .int .i64 1, .int .i64 0, .int .i64 16, .int .i64 0, .int .i64 0, .int .i64 0] 53))).nx (Nx.one _ (.cells #[.bool false, .bool false] 4)))
  have XC := Lib.hid ((bx_new ((w.alloc (.cells #[.bool false, .bool false, .bool false] 4)).alloc (.cells #[.bool false, .bool false] 4)) 53 [.int .i64 0, .int .i64 0, .int .i64 0, .int .i64 0, .int .i64 4, .int .i64 0, .int .i64 1, .int .i64 0, .int .i64 11, .int .i64 1, .int .i64 0, .int .i64 0, .int .i64 12, .int .i64 1, .int .i64 1, .int .i64 0, .int .i64 16, .int .i64 0, .int .i64 0, .int .i64 0]).nx (Nx.one _ (.cells #[.bool false, .bool false] 4)))
  have XQ := Lib.hid (bx_new (((w.alloc (.cells #[.bool false, .bool false, .bool false] 4)).alloc (.cells #[.bool false, .bool false] 4)).alloc (.cells #[.int .i64 0, .int .i64 0, .int .i64 0, .int .i64 0, .int .i64 4, .int .i64 0, .int .i64 1, .int .i64 0, .int .i64 11, .int .i64 1, .int .i64 0, .int .i64 0, .int .i64 12, .int .i64 1, .int .i64 1, .int .i64 0, .int .i64 16, .int .i64 0, .int .i64 0, .int .i64 0] 53)) 4 [.bool false, .bool false])
  rw [show (w.alloc (.cells #[.bool false, .bool false, .bool false] 4)).heap.size = w.heap.size + 1 by simp] at XI
  rw [show ((w.alloc (.cells #[.bool false, .bool false, .bool false] 4)).alloc (.cells #[.bool false, .bool false] 4)).heap.size = w.heap.size + 1 + 1 by simp] at XC
  rw [show (((w.alloc (.cells #[.bool false, .bool false, .bool false] 4)).alloc (.cells #[.bool false, .bool false] 4)).alloc (.cells #[.int .i64 0, .int .i64 0, .int .i64 0, .int .i64 0, .int .i64 4, .int .i64 0, .int .i64 1, .int .i64 0, .int .i64 11, .int .i64 1, .int .i64 0, .int .i64 0, .int .i64 12, .int .i64 1, .int .i64 1, .int .i64 0, .int .i64 16, .int .i64 0, .int .i64 0, .int .i64 0] 53)).heap.size = w.heap.size + 1 + 1 + 1 by simp] at XQ
  clear hA hR
  go_enter Try.func7, Try.ntmps7
  go_wp2_with fail
  clear hmk
  generalize ((((w.alloc (.cells #[.bool false, .bool false, .bool false] 4)).alloc (.cells #[.bool false, .bool false] 4)).alloc (.cells #[.int .i64 0, .int .i64 0, .int .i64 0, .int .i64 0, .int .i64 4, .int .i64 0, .int .i64 1, .int .i64 0, .int .i64 11, .int .i64 1, .int .i64 0, .int .i64 0, .int .i64 12, .int .i64 1, .int .i64 1, .int .i64 0, .int .i64 16, .int .i64 0, .int .i64 0, .int .i64 0] 53)).alloc (.cells #[.bool false, .bool false] 4)) = W at *
  refine (HR.out (boolCode 4) [false, false] [false, false] [] [] _ _ _ _ _ 5 2 2 2 2 0 0 0 0 W (by decide) (by decide) (by decide) (by decide) (by decide) (rdC_bx XC.out) (fun e => by cases e) (im_bx XI.out) (im_bx XQ.out) (im_nil W) (im_nil W)).mono ?_
  intro e w5 hp
  obtain ⟨B1, B2, B3, d1, d2, d3, rfl, i1, i2, i3, hn⟩ := runPost_cells hp
  have hrun : run (boolCode 4) [false, false] (mc0 [false, false] [] []) 0 = (⟨[false, true], [], [], 4, false, [], true, 0⟩, 5) := by kernel_rfl
  rw [hrun] at i1 ⊢
  obtain ⟨ad, e0, g0⟩ := i1.1 0 false rfl
  obtain ⟨ad', e1, g1⟩ := i1.1 1 true rfl
  subst e0
  obtain rfl := Option.some.inj e1
  have N5 := Lib.hid (N4.out.trans hn)
  have G0 := Lib.hid g0
  have G1 := Lib.hid g1
  clear hp i1 i2 i3 hn hrun g0 g1 e1
  simp only [List.length_cons, List.length_nil, Nat.zero_add, Nat.reduceAdd]
  go_wp2_with fail
  have k5 := Lib.hid (Nx.one w5 (.cells #[.slice (some ad) 2 d1, .slice B2 0 d2, .slice B3 0 d3, .int .i64 5, .int .i64 4, .int .i64 0] 30))
  have HY := Lib.hid (bx_new w5 30 [.slice (some ad) 2 d1, .slice B2 0 d2, .slice B3 0 d3, .int .i64 5, .int .i64 4, .int .i64 0])
  generalize w5.alloc (.cells #[.slice (some ad) 2 d1, .slice B2 0 d2, .slice B3 0 d3, .int .i64 5, .int .i64 4, .int .i64 0] 30) = W6 at *
  refine (HA.out W6).mono ?_
  rintro e w7 ⟨rfl, hn⟩
  have k7 := Lib.hid (k5.out.trans hn)
  have N7 := Lib.hid (N5.out.trans k7.out)
  have u0 := (HY.out.nx hn).cell 0 rfl
  have u5 := (HY.out.nx hn).cell 5 rfl
  have c0 := k7.out.cell G0.out
  rw [Addr.add_zero'] at c0
  have c1 : w7.cell? ⟨ad.block, ad.off + 1, none⟩ = _ := (congrArg w7.cell? (Addr.add_succ' ad 0)).symm.trans (k7.out.cell G1.out)
  clear hn k5 HY
  go_wp2_with fail
  go_ret
  exact ⟨rfl, N7.out⟩

set_option maxHeartbeats 3200000 in
set_option maxRecDepth 100000 in
theorem law6_bool_5tt (hR : RunOk) (hA : AlOk) (o : Int) (hk : o.tmod 6 = 5) (w : World) :
    Calls Try.prog 7 #[.bool true, .bool true, .int .u8 o] w fun e w' => e = .returned (.bool true) ∧ Nx w w' := by
  have HA := Lib.hid hA
  have HR := Lib.hid hR
  have hmk := make2
  have N4 := Lib.hid (show Nx w ((((w.alloc (.cells #[.bool false, .bool false, .bool true] 4)).alloc (.cells #[.bool true, .bool true] 4)).alloc (.cells #[.int .i64 0, .int .i64 0, .int .i64 0, .int .i64 0, .int .i64 5, .int .i64 0, .int .i64 1, .int .i64 0, .int .i64 11, .int .i64 1, .int .i64 0, .int .i64 0, .int .i64 12, .int .i64 1, .int .i64 1, .int .i64 0, .int .i64 16, .int .i64 0, .int .i64 0, .int .i64 0] 53)).alloc (.cells #[.bool false, .bool false] 4)) from (((Nx.one _ _).alloc _).alloc _).alloc _)
  have XI := Lib.hid (((bx_new (w.alloc (.cells #[.bool false, .bool false, .bool true] 4)) 4 [.bool true, .bool true]).nx (Nx.one _ (.cells #[.int .i64 0, .int .i64 0, .int .i64 0, .int .i64 0, .int .i64 5, .int .i64 0, .int .i64 1, .int .i64 0, .int .i64 11, .int .i64 1, .int .i64 0, .int .i64 0, .int .i64 12, .int .i64 1, .int .i64 1, .int .i64 0, .int .i64 16, .int .i64 0, .int .i64 0, .int .i64 0] 53))).nx (Nx.one _ (.cells #[.bool false, .bool false] 4)))
  have XC := Lib.hid ((bx_new ((w.alloc (.cells #[.bool false, .bool false, .bool true] 4)).alloc (.cells #[.bool true, .bool true] 4)) 53 [.int .i64 0, .int .i64 0, .int .i64 0, .int .i64 0, .int .i64 5, .int .i64 0, .int .i64 1, .int .i64 0, .int .i64 11, .int .i64 1, .int .i64 0, .int .i64 0, .int .i64 12, .int .i64 1, .int .i64 1, .int .i64 0, .int .i64 16, .int .i64 0, .int .i64 0, .int .i64 0]).nx (Nx.one _ (.cells #[.bool false, .bool false] 4)))
  have XQ := Lib.hid (bx_new (((w.alloc (.cells #[.bool false, .bool false, .bool true] 4)).alloc (.cells #[.bool true, .bool true] 4)).alloc (.cells #[.int .i64 0, .int .i64 0, .int .i64 0, .int .i64 0, .int .i64 5, .int .i64 0, .int .i64 1, .int .i64 0, .int .i64 11, .int .i64 1, .int .i64 0, .int .i64 0, .int .i64 12, .int .i64 1, .int .i64 1, .int .i64 0, .int .i64 16, .int .i64 0, .int .i64 0, .int .i64 0] 53)) 4 [.bool false, .bool false])
  rw [show (w.alloc (.cells #[.bool false, .bool false, .bool true] 4)).heap.size = w.heap.size + 1 by simp] at XI
  rw [show ((w.alloc (.cells #[.bool false, .bool false, .bool true] 4)).alloc (.cells #[.bool true, .bool true] 4)).heap.size = w.heap.size + 1 + 1 by simp] at XC
  rw [show (((w.alloc (.cells #[.bool false, .bool false, .bool true] 4)).alloc (.cells #[.bool true, .bool true] 4)).alloc (.cells #[.int .i64 0, .int .i64 0, .int .i64 0, .int .i64 0, .int .i64 5, .int .i64 0, .int .i64 1, .int .i64 0, .int .i64 11, .int .i64 1, .int .i64 0, .int .i64 0, .int .i64 12, .int .i64 1, .int .i64 1, .int .i64 0, .int .i64 16, .int .i64 0, .int .i64 0, .int .i64 0] 53)).heap.size = w.heap.size + 1 + 1 + 1 by simp] at XQ
  clear hA hR
  go_enter Try.func7, Try.ntmps7
  go_wp2_with fail
  clear hmk
  generalize ((((w.alloc (.cells #[.bool false, .bool false, .bool true] 4)).alloc (.cells #[.bool true, .bool true] 4)).alloc (.cells #[.int .i64 0, .int .i64 0, .int .i64 0, .int .i64 0, .int .i64 5, .int .i64 0, .int .i64 1, .int .i64 0, .int .i64 11, .int .i64 1, .int .i64 0, .int .i64 0, .int .i64 12, .int .i64 1, .int .i64 1, .int .i64 0, .int .i64 16, .int .i64 0, .int .i64 0, .int .i64 0] 53)).alloc (.cells #[.bool false, .bool false] 4)) = W at *
  refine (HR.out (boolCode 5) [true, true] [false, false] [] [] _ _ _ _ _ 5 2 2 2 2 0 0 0 0 W (by decide) (by decide) (by decide) (by decide) (by decide) (rdC_bx XC.out) (fun e => by cases e) (im_bx XI.out) (im_bx XQ.out) (im_nil W) (im_nil W)).mono ?_
  intro e w5 hp
  obtain ⟨B1, B2, B3, d1, d2, d3, rfl, i1, i2, i3, hn⟩ := runPost_cells hp
  have hrun : run (boolCode 5) [true, true] (mc0 [false, false] [] []) 0 = (⟨[true, false], [], [], 4, true, [], true, 0⟩, 5) := by kernel_rfl
  rw [hrun] at i1 ⊢
  obtain ⟨ad, e0, g0⟩ := i1.1 0 true rfl
  obtain ⟨ad', e1, g1⟩ := i1.1 1 false rfl
  subst e0
  obtain rfl := Option.some.inj e1
  have N5 := Lib.hid (N4.out.trans hn)
  have G0 := Lib.hid g0
  have G1 := Lib.hid g1
  clear hp i1 i2 i3 hn hrun g0 g1 e1
  simp only [List.length_cons, List.length_nil, Nat.zero_add, Nat.reduceAdd]
  go_wp2_with fail
  have k5 := Lib.hid (Nx.one w5 (.cells #[.slice (some ad) 2 d1, .slice B2 0 d2, .slice B3 0 d3, .int .i64 5, .int .i64 4, .int .i64 0] 30))
  have HY := Lib.hid (bx_new w5 30 [.slice (some ad) 2 d1, .slice B2 0 d2, .slice B3 0 d3, .int .i64 5, .int .i64 4, .int .i64 0])
  generalize w5.alloc (.cells #[.slice (some ad) 2 d1, .slice B2 0 d2, .slice B3 0 d3, .int .i64 5, .int .i64 4, .int .i64 0] 30) = W6 at *
  refine (HA.out W6).mono ?_
  rintro e w7 ⟨rfl, hn⟩
  have k7 := Lib.hid (k5.out.trans hn)
  have N7 := Lib.hid (N5.out.trans k7.out)
  have u0 := (HY.out.nx hn).cell 0 rfl
  have u5 := (HY.out.nx hn).cell 5 rfl
  have c0 := k7.out.cell G0.out
  rw [Addr.add_zero'] at c0
  have c1 : w7.cell? ⟨ad.block, ad.off + 1, none⟩ = _ := (congrArg w7.cell? (Addr.add_succ' ad 0)).symm.trans (k7.out.cell G1.out)
  clear hn k5 HY
  go_wp2_with fail
  go_ret
  exact ⟨rfl, N7.out⟩

set_option maxHeartbeats 3200000 in
set_option maxRecDepth 100000 in
theorem law6_bool_5tf (hR : RunOk) (hA : AlOk) (o : Int) (hk : o.tmod 6 = 5) (w : World) :
    Calls Try.prog 7 #[.bool true, .bool false, .int .u8 o] w fun e w' => e = .returned (.bool true) ∧ Nx w w' := by
  have HA := Lib.hid hA
  have HR := Lib.hid hR
  have hmk := make2
  have N4 := Lib.hid (show Nx w ((((w.alloc (.cells #[.bool true, .bool true, .bool true] 4)).alloc (.cells #[.bool true, .bool false] 4)).alloc (.cells #[.int .i64 0, .int .i64 0, .int .i64 0, .int .i64 0, .int .i64 5, .int .i64 0, .int .i64 1, .int .i64 0, .int .i64 11, .int .i64 1, .int .i64 0, .int .i64 0, .int .i64 12, .int .i64 1, .int .i64 1, .int .i64 0, .int .i64 16, .int .i64 0, .int .i64 0, .int .i64 0] 53)).alloc (.cells #[.bool false, .bool false] 4)) from (((Nx.one _ _).alloc _).alloc _).alloc _)
  have XI := Lib.hid (((bx_new (w.alloc (.cells #[.bool true, .bool true, .bool true] 4)) 4 [.bool true, .bool false]).nx (Nx.one _ (.cells #[.int .i64 0, .int .i64 0, .int .i64 0, .int .i64 0, .int .i64 5, .int .i64 0, .int .i64 1, .int .i64 0, .int .i64 11, .int .i64 1, .int .i64 0, .int .i64 0, .int .i64 12, .int .i64 1, .int .i64 1, .int .i64 0, .int .i64 16, .int .i64 0, .int .i64 0, .int .i64 0] 53))).nx (Nx.one _ (.cells #[.bool false, .bool false] 4)))
  have XC := Lib.hid ((bx_new ((w.alloc (.cells #[.bool true, .bool true, .bool true] 4)).alloc (.cells #[.bool true, .bool false] 4)) 53 [.int .i64 0, .int .i64 0, .int .i64 0, .int .i64 0, .int .i64 5, .int .i64 0, .int .i64 1, .int .i64 0, .int .i64 11, .int .i64 1, .int .i64 0, .int .i64 0, .int .i64 12, .int .i64 1, .int .i64 1, .int .i64 0, .int .i64 16, .int .i64 0, .int .i64 0, .int .i64 0]).nx (Nx.one _ (.cells #[.bool false, .bool false] 4)))
  have XQ := Lib.hid (bx_new (((w.alloc (.cells #[.bool true, .bool true, .bool true] 4)).alloc (.cells #[.bool true, .bool false] 4)).alloc (.cells #[.int .i64 0, .int .i64 0, .int .i64 0, .int .i64 0, .int .i64 5, .int .i64 0, .int .i64 1, .int .i64 0, .int .i64 11, .int .i64 1, .int .i64 0, .int .i64 0, .int .i64 12, .int .i64 1, .int .i64 1, .int .i64 0, .int .i64 16, .int .i64 0, .int .i64 0, .int .i64 0] 53)) 4 [.bool false, .bool false])
  rw [show (w.alloc (.cells #[.bool true, .bool true, .bool true] 4)).heap.size = w.heap.size + 1 by simp] at XI
  rw [show ((w.alloc (.cells #[.bool true, .bool true, .bool true] 4)).alloc (.cells #[.bool true, .bool false] 4)).heap.size = w.heap.size + 1 + 1 by simp] at XC
  rw [show (((w.alloc (.cells #[.bool true, .bool true, .bool true] 4)).alloc (.cells #[.bool true, .bool false] 4)).alloc (.cells #[.int .i64 0, .int .i64 0, .int .i64 0, .int .i64 0, .int .i64 5, .int .i64 0, .int .i64 1, .int .i64 0, .int .i64 11, .int .i64 1, .int .i64 0, .int .i64 0, .int .i64 12, .int .i64 1, .int .i64 1, .int .i64 0, .int .i64 16, .int .i64 0, .int .i64 0, .int .i64 0] 53)).heap.size = w.heap.size + 1 + 1 + 1 by simp] at XQ
  clear hA hR
  go_enter Try.func7, Try.ntmps7
  go_wp2_with fail
  clear hmk
  generalize ((((w.alloc (.cells #[.bool true, .bool true, .bool true] 4)).alloc (.cells #[.bool true, .bool false] 4)).alloc (.cells #[.int .i64 0, .int .i64 0, .int .i64 0, .int .i64 0, .int .i64 5, .int .i64 0, .int .i64 1, .int .i64 0, .int .i64 11, .int .i64 1, .int .i64 0, .int .i64 0, .int .i64 12, .int .i64 1, .int .i64 1, .int .i64 0, .int .i64 16, .int .i64 0, .int .i64 0, .int .i64 0] 53)).alloc (.cells #[.bool false, .bool false] 4)) = W at *
  refine (HR.out (boolCode 5) [true, false] [false, false] [] [] _ _ _ _ _ 5 2 2 2 2 0 0 0 0 W (by decide) (by decide) (by decide) (by decide) (by decide) (rdC_bx XC.out) (fun e => by cases e) (im_bx XI.out) (im_bx XQ.out) (im_nil W) (im_nil W)).mono ?_
  intro e w5 hp
  obtain ⟨B1, B2, B3, d1, d2, d3, rfl, i1, i2, i3, hn⟩ := runPost_cells hp
  have hrun : run (boolCode 5) [true, false] (mc0 [false, false] [] []) 0 = (⟨[true, false], [], [], 4, true, [], true, 0⟩, 5) := by kernel_rfl
  rw [hrun] at i1 ⊢
  obtain ⟨ad, e0, g0⟩ := i1.1 0 true rfl
  obtain ⟨ad', e1, g1⟩ := i1.1 1 false rfl
  subst e0
  obtain rfl := Option.some.inj e1
  have N5 := Lib.hid (N4.out.trans hn)
  have G0 := Lib.hid g0
  have G1 := Lib.hid g1
  clear hp i1 i2 i3 hn hrun g0 g1 e1
  simp only [List.length_cons, List.length_nil, Nat.zero_add, Nat.reduceAdd]
  go_wp2_with fail
  have k5 := Lib.hid (Nx.one w5 (.cells #[.slice (some ad) 2 d1, .slice B2 0 d2, .slice B3 0 d3, .int .i64 5, .int .i64 4, .int .i64 0] 30))
  have HY := Lib.hid (bx_new w5 30 [.slice (some ad) 2 d1, .slice B2 0 d2, .slice B3 0 d3, .int .i64 5, .int .i64 4, .int .i64 0])
  generalize w5.alloc (.cells #[.slice (some ad) 2 d1, .slice B2 0 d2, .slice B3 0 d3, .int .i64 5, .int .i64 4, .int .i64 0] 30) = W6 at *
  refine (HA.out W6).mono ?_
  rintro e w7 ⟨rfl, hn⟩
  have k7 := Lib.hid (k5.out.trans hn)
  have N7 := Lib.hid (N5.out.trans k7.out)
  have u0 := (HY.out.nx hn).cell 0 rfl
  have u5 := (HY.out.nx hn).cell 5 rfl
  have c0 := k7.out.cell G0.out
  rw [Addr.add_zero'] at c0
  have c1 : w7.cell? ⟨ad.block, ad.off + 1, none⟩ = _ := (congrArg w7.cell? (Addr.add_succ' ad 0)).symm.trans (k7.out.cell G1.out)
  clear hn k5 HY
  go_wp2_with fail
  go_ret
  exact ⟨rfl, N7.out⟩

set_option maxHeartbeats 3200000 in
set_option maxRecDepth 100000 in
theorem law6_bool_5ft (hR : RunOk) (hA : AlOk) (o : Int) (hk : o.tmod 6 = 5) (w : World) :
    Calls Try.prog 7 #[.bool false, .bool true, .int .u8 o] w fun e w' => e = .returned (.bool true) ∧ Nx w w' := by
  have HA := Lib.hid hA
  have HR := Lib.hid hR
  have hmk := make2
  have N4 := Lib.hid (show Nx w ((((w.alloc (.cells #[.bool false, .bool false, .bool false] 4)).alloc (.cells #[.bool false, .bool true] 4)).alloc (.cells #[.int .i64 0, .int .i64 0, .int .i64 0, .int .i64 0, .int .i64 5, .int .i64 0, .int .i64 1, .int .i64 0, .int .i64 11, .int .i64 1, .int .i64 0, .int .i64 0, .int .i64 12, .int .i64 1, .int .i64 1, .int .i64 0, .int .i64 16, .int .i64 0, .int .i64 0, .int .i64 0] 53)).alloc (.cells #[.bool false, .bool false] 4)) from (((Nx.one _ _).alloc _).alloc _).alloc _)
  have XI := Lib.hid (((bx_new (w.alloc (.cells #[.bool false, .bool false, .bool false] 4)) 4 [.bool false, .bool true]).nx (Nx.one _ (.cells #[.int .i64 0, .int .i64 0, .int .i64 0, .int .i64 0, .int .i64 5, .int .i64 0, .int .i64 1, .int .i64 0, .int .i64 11, .int .i64 1, .int .i64 0, .int .i64 0, .int .i64 12, .int .i64 1, .int .i64 1, .int .i64 0, .int .i64 16, .int .i64 0, .int .i64 0, .int .i64 0] 53))).nx (Nx.one _ (.cells #[.bool false, .bool false] 4)))
  have XC := Lib.hid ((bx_new ((w.alloc (.cells #[.bool false, .bool false, .bool false] 4)).alloc (.cells #[.bool false, .bool true] 4)) 53 [.int .i64 0, .int .i64 0, .int .i64 0, .int .i64 0, .int .i64 5, .int .i64 0, .int .i64 1, .int .i64 0, .int .i64 11, .int .i64 1, .int .i64 0, .int .i64 0, .int .i64 12, .int .i64 1, .int .i64 1, .int .i64 0, .int .i64 16, .int .i64 0, .int .i64 0, .int .i64 0]).nx (Nx.one _ (.cells #[.bool false, .bool false] 4)))
  have XQ := Lib.hid (bx_new (((w.alloc (.cells #[.bool false, .bool false, .bool false] 4)).alloc (.cells #[.bool false, .bool true] 4)).alloc (.cells #[.int .i64 0, .int .i64 0, .int .i64 0, .int .i64 0, .int .i64 5, .int .i64 0, .int .i64 1, .int .i64 0, .int .i64 11, .int .i64 1, .int .i64 0, .int .i64 0, .int .i64 12, .int .i64 1, .int .i64 1, .int .i64 0, .int .i64 16, .int .i64 0, .int .i64 0, .int .i64 0] 53)) 4 [.bool false, .bool false])
  rw [show (w.alloc (.cells #[.bool false, .bool false, .bool false] 4)).heap.size = w.heap.size + 1 by simp] at XI
  rw [show ((w.alloc (.cells #[.bool false, .bool false, .bool false] 4)).alloc (.cells #[.bool false, .bool true] 4)).heap.size = w.heap.size + 1 + 1 by simp] at XC
  rw [show (((w.alloc (.cells #[.bool false, .bool false, .bool false] 4)).alloc (.cells #[.bool false, .bool true] 4)).alloc (.cells #[.int .i64 0, .int .i64 0, .int .i64 0, .int .i64 0, .int .i64 5, .int .i64 0, .int .i64 1, .int .i64 0, .int .i64 11, .int .i64 1, .int .i64 0, .int .i64 0, .int .i64 12, .int .i64 1, .int .i64 1, .int .i64 0, .int .i64 16, .int .i64 0, .int .i64 0, .int .i64 0] 53)).heap.size = w.heap.size + 1 + 1 + 1 by simp] at XQ
  clear hA hR
  go_enter Try.func7, Try.ntmps7
  go_wp2_with fail
  clear hmk
  generalize ((((w.alloc (.cells #[.bool false, .bool false, .bool false] 4)).alloc (.cells #[.bool false, .bool true] 4)).alloc (.cells #[.int .i64 0, .int .i64 0, .int .i64 0, .int .i64 0, .int .i64 5, .int .i64 0, .int .i64 1, .int .i64 0, .int .i64 11, .int .i64 1, .int .i64 0, .int .i64 0, .int .i64 12, .int .i64 1, .int .i64 1, .int .i64 0, .int .i64 16, .int .i64 0, .int .i64 0, .int .i64 0] 53)).alloc (.cells #[.bool false, .bool false] 4)) = W at *
  refine (HR.out (boolCode 5) [false, true] [false, false] [] [] _ _ _ _ _ 5 2 2 2 2 0 0 0 0 W (by decide) (by decide) (by decide) (by decide) (by decide) (rdC_bx XC.out) (fun e => by cases e) (im_bx XI.out) (im_bx XQ.out) (im_nil W) (im_nil W)).mono ?_
  intro e w5 hp
  obtain ⟨B1, B2, B3, d1, d2, d3, rfl, i1, i2, i3, hn⟩ := runPost_cells hp
  have hrun : run (boolCode 5) [false, true] (mc0 [false, false] [] []) 0 = (⟨[false, true], [], [], 4, false, [], true, 0⟩, 5) := by kernel_rfl
  rw [hrun] at i1 ⊢
  obtain ⟨ad, e0, g0⟩ := i1.1 0 false rfl
  obtain ⟨ad', e1, g1⟩ := i1.1 1 true rfl
  subst e0
  obtain rfl := Option.some.inj e1
  have N5 := Lib.hid (N4.out.trans hn)
  have G0 := Lib.hid g0
  have G1 := Lib.hid g1
  clear hp i1 i2 i3 hn hrun g0 g1 e1
  simp only [List.length_cons, List.length_nil, Nat.zero_add, Nat.reduceAdd]
  go_wp2_with fail
  have k5 := Lib.hid (Nx.one w5 (.cells #[.slice (some ad) 2 d1, .slice B2 0 d2, .slice B3 0 d3, .int .i64 5, .int .i64 4, .int .i64 0] 30))
  have HY := Lib.hid (bx_new w5 30 [.slice (some ad) 2 d1, .slice B2 0 d2, .slice B3 0 d3, .int .i64 5, .int .i64 4, .int .i64 0])
  generalize w5.alloc (.cells #[.slice (some ad) 2 d1, .slice B2 0 d2, .slice B3 0 d3, .int .i64 5, .int .i64 4, .int .i64 0] 30) = W6 at *
  refine (HA.out W6).mono ?_
  rintro e w7 ⟨rfl, hn⟩
  have k7 := Lib.hid (k5.out.trans hn)
  have N7 := Lib.hid (N5.out.trans k7.out)
  have u0 := (HY.out.nx hn).cell 0 rfl
  have u5 := (HY.out.nx hn).cell 5 rfl
  have c0 := k7.out.cell G0.out
  rw [Addr.add_zero'] at c0
  have c1 : w7.cell? ⟨ad.block, ad.off + 1, none⟩ = _ := (congrArg w7.cell? (Addr.add_succ' ad 0)).symm.trans (k7.out.cell G1.out)
  clear hn k5 HY
  go_wp2_with fail
  go_ret
  exact ⟨rfl, N7.out⟩

set_option maxHeartbeats 3200000 in
set_option maxRecDepth 100000 in
theorem law6_bool_5ff (hR : RunOk) (hA : AlOk) (o : Int) (hk : o.tmod 6 = 5) (w : World) :
    Calls Try.prog 7 #[.bool false, .bool false, .int .u8 o] w fun e w' => e = .returned (.bool true) ∧ Nx w w' := by
  have HA := Lib.hid hA
  have HR := Lib.hid hR
  have hmk := make2
  have N4 := Lib.hid (show Nx w ((((w.alloc (.cells #[.bool true, .bool false, .bool true] 4)).alloc (.cells #[.bool false, .bool false] 4)).alloc (.cells #[.int .i64 0, .int .i64 0, .int .i64 0, .int .i64 0, .int .i64 5, .int .i64 0, .int .i64 1, .int .i64 0, .int .i64 11, .int .i64 1, .int .i64 0, .int .i64 0, .int .i64 12, .int .i64 1, .int .i64 1, .int .i64 0, .int .i64 16, .int .i64 0, .int .i64 0, .int .i64 0] 53)).alloc (.cells #[.bool false, .bool false] 4)) from (((Nx.one _ _).alloc _).alloc _).alloc _)
  have XI := Lib.hid (((bx_new (w.alloc (.cells #[.bool true, .bool false, .bool true] 4)) 4 [.bool false, .bool false]).nx (Nx.one _ (.cells #[.int .i64 0, .int .i64 0, .int .i64 0, .int .i64 0, .int .i64 5, .int .i64 0, .int .i64 1, .int .i64 0, .int .i64 11, .int .i64 1, .int .i64 0, .int .i64 0, .int .i64 12, .int .i64 1, .int .i64 1, .int .i64 0, .int .i64 16, .int .i64 0, .int .i64 0, .int .i64 0] 53))).nx (Nx.one _ (.cells #[.bool false, .bool false] 4)))
  have XC := Lib.hid ((bx_new ((w.alloc (.cells #[.bool true, .bool false, .bool true] 4)).alloc (.cells #[.bool false, .bool false] 4)) 53 [.int .i64 0, .int .i64 0, .int .i64 0, .int .i64 0, .int .i64 5, .int .i64 0, .int .i64 1, .int .i64 0, .int .i64 11, .int .i64 1, .int .i64 0, .int .i64 0, .int .i64 12, .int .i64 1, .int .i64 1, .int .i64 0, .int .i64 16, .int .i64 0, .int .i64 0, .int .i64 0]).nx (Nx.one _ (.cells #[.bool false, .bool false] 4)))
  have XQ := Lib.hid (bx_new (((w.alloc (.cells #[.bool true, .bool false, .bool true] 4)).alloc (.cells #[.bool false, .bool false] 4)).alloc (.cells #[.int .i64 0, .int .i64 0, .int .i64 0, .int .i64 0, .int .i64 5, .int .i64 0, .int .i64 1, .int .i64 0, .int .i64 11, .int .i64 1, .int .i64 0, .int .i64 0, .int .i64 12, .int .i64 1, .int .i64 1, .int .i64 0, .int .i64 16, .int .i64 0, .int .i64 0, .int .i64 0] 53)) 4 [.bool false, .bool false])
  rw [show (w.alloc (.cells #[.bool true, .bool false, .bool true] 4)).heap.size = w.heap.size + 1 by simp] at XI
  rw [show ((w.alloc (.cells #[.bool true, .bool false, .bool true] 4)).alloc (.cells #[.bool false, .bool false] 4)).heap.size = w.heap.size + 1 + 1 by simp] at XC
  rw [show (((w.alloc (.cells #[.bool true, .bool false, .bool true] 4)).alloc (.cells #[.bool false, .bool false] 4)).alloc (.cells #[.int .i64 0, .int .i64 0, .int .i64 0, .int .i64 0, .int .i64 5, .int .i64 0, .int .i64 1, .int .i64 0, .int .i64 11, .int .i64 1, .int .i64 0, .int .i64 0, .int .i64 12, .int .i64 1, .int .i64 1, .int .i64 0, .int .i64 16, .int .i64 0, .int .i64 0, .int .i64 0] 53)).heap.size = w.heap.size + 1 + 1 + 1 by simp] at XQ
  clear hA hR
  go_enter Try.func7, Try.ntmps7
  go_wp2_with fail
  clear hmk
  generalize ((((w.alloc (.cells #[.bool true, .bool false, .bool true] 4)).alloc (.cells #[.bool false, .bool false] 4)).alloc (.cells #[.int .i64 0, .int .i64 0, .int .i64 0, .int .i64 0, .int .i64 5, .int .i64 0, .int .i64 1, .int .i64 0, .int .i64 11, .int .i64 1, .int .i64 0, .int .i64 0, .int .i64 12, .int .i64 1, .int .i64 1, .int .i64 0, .int .i64 16, .int .i64 0, .int .i64 0, .int .i64 0] 53)).alloc (.cells #[.bool false, .bool false] 4)) = W at *
  refine (HR.out (boolCode 5) [false, false] [false, false] [] [] _ _ _ _ _ 5 2 2 2 2 0 0 0 0 W (by decide) (by decide) (by decide) (by decide) (by decide) (rdC_bx XC.out) (fun e => by cases e) (im_bx XI.out) (im_bx XQ.out) (im_nil W) (im_nil W)).mono ?_
  intro e w5 hp
  obtain ⟨B1, B2, B3, d1, d2, d3, rfl, i1, i2, i3, hn⟩ := runPost_cells hp
  have hrun : run (boolCode 5) [false, false] (mc0 [false, false] [] []) 0 = (⟨[true, false], [], [], 4, true, [], true, 0⟩, 5) := by kernel_rfl
  rw [hrun] at i1 ⊢
  obtain ⟨ad, e0, g0⟩ := i1.1 0 true rfl
  obtain ⟨ad', e1, g1⟩ := i1.1 1 false rfl
  subst e0
  obtain rfl := Option.some.inj e1
  have N5 := Lib.hid (N4.out.trans hn)
  have G0 := Lib.hid g0
  have G1 := Lib.hid g1
  clear hp i1 i2 i3 hn hrun g0 g1 e1
  simp only [List.length_cons, List.length_nil, Nat.zero_add, Nat.reduceAdd]
  go_wp2_with fail
  have k5 := Lib.hid (Nx.one w5 (.cells #[.slice (some ad) 2 d1, .slice B2 0 d2, .slice B3 0 d3, .int .i64 5, .int .i64 4, .int .i64 0] 30))
  have HY := Lib.hid (bx_new w5 30 [.slice (some ad) 2 d1, .slice B2 0 d2, .slice B3 0 d3, .int .i64 5, .int .i64 4, .int .i64 0])
  generalize w5.alloc (.cells #[.slice (some ad) 2 d1, .slice B2 0 d2, .slice B3 0 d3, .int .i64 5, .int .i64 4, .int .i64 0] 30) = W6 at *
  refine (HA.out W6).mono ?_
  rintro e w7 ⟨rfl, hn⟩
  have k7 := Lib.hid (k5.out.trans hn)
  have N7 := Lib.hid (N5.out.trans k7.out)
  have u0 := (HY.out.nx hn).cell 0 rfl
  have u5 := (HY.out.nx hn).cell 5 rfl
  have c0 := k7.out.cell G0.out
  rw [Addr.add_zero'] at c0
  have c1 : w7.cell? ⟨ad.block, ad.off + 1, none⟩ = _ := (congrArg w7.cell? (Addr.add_succ' ad 0)).symm.trans (k7.out.cell G1.out)
  clear hn k5 HY
  go_wp2_with fail
  go_ret
  exact ⟨rfl, N7.out⟩

theorem law6_bool (hR : RunOk) (hA : AlOk) (a b : Bool) (o : Int) (h0 : 0 ≤ o) (w : World) :
    Calls Try.prog 7 #[.bool a, .bool b, .int .u8 o] w fun e w' => e = .returned (.bool true) ∧ Nx w w' := by
  have h1 := Int.tmod_nonneg 6 h0
  have h2 := Int.tmod_lt_of_pos o (show (0 : Int) < 6 by decide)
  obtain hk | hk | hk | hk | hk | hk : o.tmod 6 = 0 ∨ o.tmod 6 = 1 ∨ o.tmod 6 = 2 ∨ o.tmod 6 = 3 ∨ o.tmod 6 = 4 ∨ o.tmod 6 = 5 := by omega
  · cases a
    · cases b
      · exact law6_bool_0ff hR hA o hk w
      · exact law6_bool_0ft hR hA o hk w
    · cases b
      · exact law6_bool_0tf hR hA o hk w
      · exact law6_bool_0tt hR hA o hk w
  · cases a
    · cases b
      · exact law6_bool_1ff hR hA o hk w
      · exact law6_bool_1ft hR hA o hk w
    · cases b
      · exact law6_bool_1tf hR hA o hk w
      · exact law6_bool_1tt hR hA o hk w
  · cases a
    · cases b
      · exact law6_bool_2ff hR hA o hk w
      · exact law6_bool_2ft hR hA o hk w
    · cases b
      · exact law6_bool_2tf hR hA o hk w
      · exact law6_bool_2tt hR hA o hk w
  · cases a
    · cases b
      · exact law6_bool_3ff hR hA o hk w
      · exact law6_bool_3ft hR hA o hk w
    · cases b
      · exact law6_bool_3tf hR hA o hk w
      · exact law6_bool_3tt hR hA o hk w
  · cases a
    · cases b
      · exact law6_bool_4ff hR hA o hk w
      · exact law6_bool_4ft hR hA o hk w
    · cases b
      · exact law6_bool_4tf hR hA o hk w
      · exact law6_bool_4tt hR hA o hk w
  · cases a
    · cases b
      · exact law6_bool_5ff hR hA o hk w
      · exact law6_bool_5ft hR hA o hk w
    · cases b
      · exact law6_bool_5tf hR hA o hk w
      · exact law6_bool_5tt hR hA o hk w
end Go.Proofs.Ytmijfipggggdfaa
