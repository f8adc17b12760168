/- The examples of the chapter hold. Conditions: the tables are laid. -/
import Derived.Test.YtfkjggghlkondaaDoorH
namespace Go.Proofs.YtfkjggghlkondaaDoor
open Go.RowKit

theorem parL_I00 : parL (B { data := #[73, 48, 48] }) = (0, 0, 6) := by decide +kernel
theorem parL_Q256 : parL (B { data := #[81, 50, 53, 54] }) = (0, 0, 3) := by decide +kernel
theorem M12 : lt 2 ++ dec 12 = { data := #[77, 49, 50] } := by
  apply B_inj
  rw [B_append]
  show [77] ++ Lib.decDigits 12 = _
  rw [Lib.decDigits_two (by omega) (by omega)]; decide

set_option maxHeartbeats 800000 in
set_option maxRecDepth 100000 in
theorem alive_any (w : World) (he : Env w) : Calls Tryd.prog 9 #[] w fun e w' => e = .returned (.bool true) ∧ Nx w w' := by
  have P1 := Lib.hid (fun (w : World) (he : Env w) => by have := parse_any { data := #[73, 48, 48] } (by decide) w he; rw [parL_I00] at this; exact this)
  have P2 := Lib.hid (fun (w : World) (he : Env w) => by have := parse_any { data := #[81, 50, 53, 54] } (by decide) w he; rw [parL_Q256] at this; exact this)
  have P3 := Lib.hid (fun (w : World) (he : Env w) => by have := format_ok 2 12 (by omega) (by omega) w he; rw [M12] at this; exact this)
  have HE := Lib.hid he
  clear he
  go_enter Tryd.func9, Tryd.ntmps9
  go_wp2_with fail
  refine (P1.out _ HE.out).mono ?_
  rintro e w1 ⟨rfl, h1⟩
  have H1 := Lib.hid h1
  clear h1
  go_wp2_with fail
  refine (P2.out _ (HE.out.nx (H1.out.alloc _))).mono ?_
  rintro e w2 ⟨rfl, h2⟩
  have H2 := Lib.hid ((H1.out.alloc _).trans h2)
  clear h2
  go_wp2_with fail
  refine (P3.out _ (HE.out.nx (H2.out.alloc _))).mono ?_
  rintro e w3 ⟨rfl, h3⟩
  have H3 := Lib.hid ((H2.out.alloc _).trans h3)
  clear h3
  go_wp2
  go_ret
  exact ⟨rfl, H3.out⟩
end Go.Proofs.YtfkjggghlkondaaDoor
