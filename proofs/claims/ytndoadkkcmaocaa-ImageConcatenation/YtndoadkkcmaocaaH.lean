/- The examples of the chapter hold. Conditions: none. -/
import Derived.Test.YtndoadkkcmaocaaG
namespace Go.Proofs.Ytndoadkkcmaocaa
open Go.RowKit

theorem rd_lit (w : World) (xs : List Bool) (h : xs.length ≤ 1000000) : Rd (w.alloc (.cells (bools xs).toArray 4)) (some ⟨w.heap.size, 0, none⟩) xs :=
  (own_of_block (base := 0) rfl (Nat.zero_le _) (heap_alloc_new w _) h).rd

theorem dif_ex : dif [true, false, true] [true, true, true] = [1] := by decide
theorem txt_ex : txt [true, false, true] = ⟨#[49, 48, 49]⟩ := by rfl

set_option maxHeartbeats 800000 in
theorem alive_any (w : World) : Calls Try.prog 10 #[] w fun e w' => e = .returned (.bool true) ∧ Nx w w' := by
  have R1 := Lib.hid ((rd_lit w [true, false, true] (by decide)).nx (Nx.one _ (.cells #[.bool true, .bool true, .bool true] 4)))
  have R2 := Lib.hid (by have := rd_lit (w.alloc (.cells #[.bool true, .bool false, .bool true] 4)) [true, true, true] (by decide); rwa [show (w.alloc (.cells #[.bool true, .bool false, .bool true] 4)).heap.size = w.heap.size + 1 by simp] at this)
  have HN := Lib.hid ((Nx.one w (.cells #[.bool true, .bool false, .bool true] 4)).alloc (.cells #[.bool true, .bool true, .bool true] 4))
  go_enter Try.func10, Try.ntmps10
  go_wp2_with fail
  refine (diff_any _ _ [true, false, true] [true, true, true] _ _ _ _ rfl rfl (by decide) _ R1.out R2.out).mono ?_
  rintro e w1 (⟨h, -⟩ | ⟨-, A, c, rfl, hr, hnx⟩)
  · exact absurd rfl h
  rw [dif_ex] at hr ⊢
  obtain ⟨ad, rfl, hc⟩ := hr 0 1 rfl
  have HN1 := Lib.hid (HN.out.trans hnx)
  have hc0 : w1.cell? ad = some (.int .i64 1) := by simpa [Addr.add] using hc
  have HC := Lib.hid hc0
  clear hnx hr hc hc0
  go_wp2_with fail
  refine (format_any _ [true, false, true] _ (by decide) _ (rd_lit w1 [true, false, true] (by decide))).mono ?_
  rintro e w2 ⟨rfl, h2⟩
  rw [txt_ex]
  have HN2 := Lib.hid ((HN1.out.alloc _).trans h2)
  have hc2 := h2.cell ((Nx.one _ _).cell HC.out)
  clear h2
  have e1 : ((ByteArray.mk #[49, 48, 49]).toList == [49, 48, 49]) = true := by rw [ByteArray.toList_eq]; rfl
  go_wp2
  go_ret
  exact ⟨rfl, HN2.out⟩
end Go.Proofs.Ytndoadkkcmaocaa
