/- What opcodeOf returns. Conditions: the listed package-level variables hold what the program's text lays. -/
import Derived.Test.YtfnmjbapjngmaaaDoorIQ1
import Derived.Deep.MidRow
namespace Go.Proofs.YtfnmjbapjngmaaaDoor
open Go.RowKit

theorem fnd_hit (k : Nat) (l : List UInt8) (h : B (nms.getD k ⟨#[]⟩) = l) : fnd (k + 1) l = k := by unfold fnd; rw [if_pos h]
theorem fnd_go (k : Nat) (l : List UInt8) (h : ¬ B (nms.getD k ⟨#[]⟩) = l) (h0 : fnd k l = -1) : fnd (k + 1) l = -1 := by
  show (if B (nms.getD k ⟨#[]⟩) = l then (k : Int) else fnd k l) = -1
  rw [if_neg h, h0]
theorem ixm_at (k : Nat) (hk : k < 17) (l : List UInt8) (h : B (nms.getD k ⟨#[]⟩) = l) : ixm l = k := ixm_first k hk l h
theorem idx_tbl (k : Nat) (h : k < 17) (w : World) : (Instr.index 53 (.agg tbl.toArray) (.int .i64 k)).run Tryd.prog w = .ok (.agg #[.string (nms.getD k ⟨#[]⟩), .int .i64 (frm (k : Int))]) w := by
  rcases seventeen h with rfl|rfl|rfl|rfl|rfl|rfl|rfl|rfl|rfl|rfl|rfl|rfl|rfl|rfl|rfl|rfl|rfl <;> kernel_rfl
theorem under_tbl : ∃ d, Tryd.prog.underlying 53 = some d ∧ d.isRow = true := ⟨_, Tryd.underlying53, rfl⟩
theorem info_tbl : (Tryd.prog.info? 53).map (·.size) = some tbl.length := by kernel_rfl
theorem range_tbl {w : World} (he : Ev w) : w.rangeAt 0 0 tbl := fun j v hv => by rw [Nat.zero_add]; exact he.tb j v hv
def opO (l : List UInt8) : Int × Bool := if ixm l = -1 then (0, false) else (ixm l, true)

set_option maxHeartbeats 1600000 in
set_option maxRecDepth 100000 in
theorem opcodeOf_any (s : ByteArray) (w : World) (he : Ev w) : Calls Tryd.prog 29 #[.string s] w fun e w' => e = .returned (.tuple #[.int .i64 (opO (B s)).1, .bool (opO (B s)).2]) ∧ Nx w w' := by
  have HR := Lib.hid (range_tbl he)
  obtain ⟨d, hu0, hd0⟩ := under_tbl
  have HU := Lib.hid hu0
  have HD := Lib.hid hd0
  clear he hu0 hd0
  go_enter Tryd.func29, Tryd.ntmps29
  go_wp2_with (refine wpList_load_mid rfl 53 _ rfl 0 0 rfl tbl d HR.out HU.out HD.out info_tbl ?_)
  clear HR HU HD
  go_loopw [7] (fun i wr => ∃ k : Nat, k ≤ 17 ∧ i = .int .i64 k ∧ Nx w wr ∧ fnd k (B s) = -1) (fun i _ => 17 - (intOf i).toNat)
  case atStart => exact ⟨0, by omega, rfl, Nx.refl _, rfl⟩
  case round =>
    obtain ⟨k, hk, rfl, hnx, hf⟩ := hrel
    by_cases hlt : k < 17
    · have hi := fun w => idx_tbl k hlt w
      have HG := Lib.hid (fnd_go k (B s))
      have HA := Lib.hid (ixm_at k hlt (B s))
      have HF := Lib.hid hf
      clear hf hk
      generalize nms.getD k ⟨#[]⟩ = M at *
      generalize frm (k : Int) = f at *
      by_cases hq : B M = B s
      · have he := eq_yes hq
        have HO := Lib.hid (show opO (B s) = ((k : Int), true) by unfold opO; rw [HA.out hq, if_neg (by omega)])
        clear hq HG HA HF
        go_wp2
        go_ret2
        exact ⟨by rw [HO.out]; rfl, (by repeat (first | exact Nx.refl _ | assumption | refine Nx.drewN ?_ _ | refine Nx.drew ?_ | refine Nx.alloc ?_ _ | refine Nx.set ?_ (by first | exact Nat.le_refl _ | (simp; done) | (simp; omega)) _))⟩
      · have he := eq_no hq
        have HN := Lib.hid (HG.out hq HF.out)
        clear hq HG HA HF
        go_wp2
        go_roundw
        case rel => exact ⟨k + 1, by omega, by go_num, (by repeat (first | exact Nx.refl _ | assumption | refine Nx.drewN ?_ _ | refine Nx.drew ?_ | refine Nx.alloc ?_ _ | refine Nx.set ?_ (by first | exact Nat.le_refl _ | (simp; done) | (simp; omega)) _)), HN.out⟩
        case measure => simp [intOf]; omega
    · obtain rfl : k = 17 := by omega
      have HO := Lib.hid (show opO (B s) = (0, false) by unfold opO; rw [if_pos (show ixm (B s) = -1 from hf)])
      clear hf
      go_wp2
      go_ret2
      exact ⟨by rw [HO.out]; rfl, hnx⟩
end Go.Proofs.YtfnmjbapjngmaaaDoor
