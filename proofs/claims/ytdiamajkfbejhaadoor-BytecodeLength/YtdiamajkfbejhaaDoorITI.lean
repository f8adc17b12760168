/- The chapter's example holds. Condition: the table of opcodes holds what the program's text lays. -/
import Derived.Test.YtdiamajkfbejhaaDoorIT7
import Derived.Test.YtdiamajkfbejhaaDoorITE
import Derived.Test.YtdiamajkfbejhaaDoorIN8
import Derived.Test.YtdiamajkfbejhaaDoorIT9
namespace Go.Proofs.YtdiamajkfbejhaaDoor
open Go.RowKit

def exB : List UInt8 := [66, 66, 49, 1, 0, 0, 0, 0, 0, 0, 0, 2, 0, 0, 0, 0, 16]
theorem exEnc : encA 1 0 0 0 exC = (exB, 0) := by decide +kernel
set_option maxHeartbeats 1600000 in
set_option maxRecDepth 100000 in
theorem example_any (w : World) : Calls Tryd.prog 18 #[] w fun r w' => ∃ ad, r = .returned (pgV 1 0 0 0 (some ad) 2 2) ∧ RdC w' (some ad) exC ∧ Nx w w' := by
  go_enter Tryd.func18, Tryd.ntmps18
  go_wp2
  go_returns
  refine ⟨_, rfl, ?_, by repeat (first | exact Nx.refl _ | refine Nx.alloc ?_ _ | refine Nx.set ?_ (by first | exact Nat.le_refl _ | (simp; done) | (simp; omega)) _)⟩
  exact RdC.bx (T := 46) (bx_newB _ (w.heap.size + 1) (by simp) 46 (ins exC))
set_option maxHeartbeats 1600000 in
set_option maxRecDepth 100000 in
theorem alive_any (w : World) (he : Ev w) : Calls Tryd.prog 9 #[] w fun e w' => e = .returned (.bool true) ∧ Nx w w' := by
  have HE := Lib.hid he
  clear he
  go_enter Tryd.func9, Tryd.ntmps9
  go_wp2_with fail
  refine (example_any w).mono ?_
  rintro r w1 ⟨ad, rfl, h1, n1⟩
  have N1 := Lib.hid n1
  have H1 := Lib.hid h1
  clear n1 h1
  go_wp2_with fail
  have EN := Lib.hid (encode_any 1 0 0 0 (some ad) exC 2 2 rfl (by unfold maxLen; omega) w1 H1.out (HE.out.nx N1.out))
  rw [exEnc] at EN
  refine EN.out.mono ?_
  rintro r w2 ⟨A', c', rfl, h2, h3, _, n2⟩
  have N2 := Lib.hid (N1.out.trans n2)
  have cv := conv_y' A' exB 17 c' w2 rfl h2 (fun e => (h3 e).2)
  rw [show exB.length = 17 from rfl]
  clear EN h2 h3 n2 H1 N1
  have HQ := Lib.hid (str_eq exB exB)
  unfold exB at cv HQ
  go_wp2_with fail
  go_ret
  exact ⟨by rw [show decide _ = true from rfl] at HQ; first | rfl | (rw [HQ.out]), N2.out⟩
end Go.Proofs.YtdiamajkfbejhaaDoor
