/- alive returns true. Conditions: none. -/
import Derived.Test.YtndapcbjcannhaaS13
import Derived.Test.YtndapcbjcannhaaS14
import Derived.Test.YtndapcbjcannhaaS15
namespace Go.Proofs.Ytndapcbjcannhaa
open Go.RowKit

theorem alive1 : stxt (List.replicate 2 false) (List.replicate 3 false) (List.replicate 1 false) = ⟨#[48, 48, 32, 48, 48, 48, 32, 48]⟩ := by decide
theorem alive2 : stxt (List.replicate 2 false) ((List.replicate 3 false).set 1 true) (List.replicate 1 false) = ⟨#[48, 48, 32, 48, 49, 48, 32, 48]⟩ := by decide

set_option maxHeartbeats 1600000 in
set_option maxRecDepth 100000 in
theorem alive_any (w : World) : Calls Try.prog 9 #[] w fun e w' => e = .returned (.bool true) ∧ Nx w w' := by
  have NW := Lib.hid (show ∀ w : World, Calls Try.prog 10 #[.agg #[.int .i64 1, .int .i64 2, .int .i64 3, .int .i64 1]] w fun r w' => ∃ v, r = .returned (.tuple #[v, .int .i64 0]) ∧ OwS w' w.heap.size v 2 3 1 (List.replicate 2 false) (List.replicate 3 false) (List.replicate 1 false) ∧ Nx w w' from fun w => new_ok 1 2 3 1 (by decide) (by decide) (by decide) (by decide) w)
  go_enter Try.func9, Try.ntmps9
  go_wp2_with fail
  refine (NW.out w).mono ?_
  rintro e w1 ⟨v, rfl, ⟨a1, a2, a3, c1, c2, c3, rfl, _, ⟨o1, l1⟩, ⟨o2, l2⟩, ⟨o3, l3⟩⟩, h1⟩
  have W1 := Lib.hid (show ∀ w' : World, Nx w1 w' → Calls Try.prog 21 #[.agg #[.slice (some ⟨a1, 0, none⟩) 2 c1, .slice (some ⟨a2, 0, none⟩) 3 c2, .slice (some ⟨a3, 0, none⟩) 1 c3], .agg #[.int .i64 2, .int .i64 1], .bool true] w' fun e w2 => ∃ s, e = .returned (.tuple #[s, .int .i64 0]) ∧ OwS w2 w'.heap.size s 2 3 1 (List.replicate 2 false) ((List.replicate 3 false).set 1 true) (List.replicate 1 false) ∧ Nx w' w2 from
    fun w' k => write_ok2 _ _ _ 2 3 1 c1 c2 c3 (List.replicate 2 false) (List.replicate 3 false) (List.replicate 1 false) 1 true (by decide) (by decide) (by decide) (by decide) w' ((o1.nx k).im l1) ((o2.nx k).im l2) ((o3.nx k).im l3))
  have F1 := Lib.hid (fun (w' : World) (k : Nx w1 w') => stFormat_any _ _ _ 2 3 1 c1 c2 c3 (List.replicate 2 false) (List.replicate 3 false) (List.replicate 1 false) (by decide) (by decide) (by decide) w' ((o1.nx k).im l1) ((o2.nx k).im l2) ((o3.nx k).im l3))
  rw [alive1] at F1
  have X1 := Lib.hid (bx_new w1 26 [.slice (some ⟨a1, 0, none⟩) 2 c1, .slice (some ⟨a2, 0, none⟩) 3 c2, .slice (some ⟨a3, 0, none⟩) 1 c3])
  have H1 := Lib.hid h1
  clear h1 o1 o2 o3 l1 l2 l3
  go_wp2_with fail
  refine (W1.out _ (by repeat (first | exact Nx.refl _ | assumption | refine Nx.drewN ?_ _ | refine Nx.drew ?_ | refine Nx.alloc ?_ _ | refine Nx.set ?_ (by first | exact Nat.le_refl _ | (simp; done) | (simp; omega)) _))).mono ?_
  rintro e w2 ⟨s, rfl, ⟨b1, b2, b3, d1, d2, d3, rfl, _, ⟨o1, l1⟩, ⟨o2, l2⟩, ⟨o3, l3⟩⟩, h2⟩
  have F2 := Lib.hid (fun (w' : World) (k : Nx w2 w') => stFormat_any _ _ _ 2 3 1 d1 d2 d3 (List.replicate 2 false) ((List.replicate 3 false).set 1 true) (List.replicate 1 false) (by decide) (by decide) (by decide) w' ((o1.nx k).im l1) ((o2.nx k).im l2) ((o3.nx k).im l3))
  rw [alive2] at F2
  have Y1 := X1.out.nx (h2.alloc (.cells #[.slice (some ⟨b1, 0, none⟩) 2 d1, .slice (some ⟨b2, 0, none⟩) 3 d2, .slice (some ⟨b3, 0, none⟩) 1 d3] 26))
  have g1 := Y1.cell 0 rfl
  have g2 := Y1.cell 1 rfl
  have g3 := Y1.cell 2 rfl
  have X2 := Lib.hid (bx_new w2 26 [.slice (some ⟨b1, 0, none⟩) 2 d1, .slice (some ⟨b2, 0, none⟩) 3 d2, .slice (some ⟨b3, 0, none⟩) 1 d3])
  have H12 := Lib.hid (((Nx.refl w1).alloc (.cells #[.slice (some ⟨a1, 0, none⟩) 2 c1, .slice (some ⟨a2, 0, none⟩) 3 c2, .slice (some ⟨a3, 0, none⟩) 1 c3] 26)).trans (h2.alloc (.cells #[.slice (some ⟨b1, 0, none⟩) 2 d1, .slice (some ⟨b2, 0, none⟩) 3 d2, .slice (some ⟨b3, 0, none⟩) 1 d3] 26)))
  clear h2 o1 o2 o3 l1 l2 l3 Y1
  go_wp2_with fail
  clear g1 g2 g3
  refine (F1.out _ H12.out).mono ?_
  rintro e w3 ⟨rfl, h3⟩
  have Y2 := X2.out.nx h3
  have g1 := Y2.cell 0 rfl
  have g2 := Y2.cell 1 rfl
  have g3 := Y2.cell 2 rfl
  have HF := Lib.hid (F2.out w3 ((Nx.one w2 _).trans h3))
  have H3 := Lib.hid ((H1.out.trans H12.out).trans h3)
  clear h3 Y2
  go_wp2_with fail
  clear g1 g2 g3
  refine HF.out.mono ?_
  rintro e w4 ⟨rfl, h4⟩
  have H4 := Lib.hid (H3.out.trans h4)
  clear h4
  go_wp2
  go_ret
  exact ⟨rfl, H4.out⟩
end Go.Proofs.Ytndapcbjcannhaa
