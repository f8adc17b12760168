/- The law AddrCheckIsMonotone of package busbarlaw01 returns true for every input and leaves its arguments as they were. Conditions: none of ours; the listed package-level variables hold what the program's text lays (tied by the card). -/
import Derived.Test.YtfkjggghlkondaaDoorBase
import Derived.Test.YtfkjggghlkondaaDoorL6w
import Derived.Lib.SmallJoins
namespace Go.Proofs.YtfkjggghlkondaaDoor
open Go.ChangeShapes Go.WideShapes Go.ChangeAt Go.RowKit Go.Joins
open Go.ChangeMaps (open_string shut_string)

set_option maxRecDepth 100000 in
theorem addrCheckIsMonotone_lifted (os : Os) (started : os.Started) (H : Type) (enc : TypeId × Value → H) :
    ReturnsInHanded {} Tryd.checked os 6 .any (fun w args => (Rows.addrCheckIsMonotoneSpec.pre enc Tryd.prog Tryd.f6 [] false w args ∧ laidMetH Tryd.prog lst w) ∧ sizedMet enc Tryd.prog Tryd.f6 (OpenSpec.ofChange Rows.addrCheckIsMonotoneSpec) false w args)
      (Rows.addrCheckIsMonotoneSpec.post enc Tryd.prog Tryd.f6 false true false false) := by
  refine returnsInHanded_of_change_and (C := Tryd.checked) (X := fun w _ => laidMetH Tryd.prog lst w) (fun _ _ _ hh h => h.of_heap hh) own started (by kernel_rfl) Tryd.func6
    (ChangeSpec.witness_shaped (enc := enc) (C := Tryd.checked) (os := os) (X := fun w _ => laidMetH Tryd.prog lst w) false (World.doorLaid Tryd.prog 29 os) #[.agg #[.int .u16 0, .int .u16 0, .int .u16 0], .agg #[.int .u16 0, .int .u16 0, .int .u16 0], .int .u16 0] 8 rfl (World.shaped_of_RefB (by kernel_rfl) (by kernel_rfl)) (by kernel_rfl) (by kernel_rfl) (by kernel_rfl) (door_met os _)) ?_
  intro W base args ds gs before hval0 hW _ _ hL _
  have hval : ∀ (j : Nat) t v, Tryd.f6.params[j]? = some t → args[j]? = some v → Value.okWide Tryd.prog W .any base t v := hval0
  have hW' := hW
  obtain ⟨p, q, hA0, hV, rfl, hfz, hnd⟩ := hW
  have hA : DataW.TrodAll enc Tryd.prog W 0 (fun _ => true) true Tryd.f6.params.toList args.toList ds p := hA0
  rw [Tryd.params6] at hA hval
  obtain ⟨v0, vs0, d0, ds0, p0, q0, hargs, rfl, rfl, h0, r0⟩ := trodAll_cons hA
  obtain ⟨v1, vs1, d1, ds1, p1, q1, rfl, rfl, rfl, h1, r1⟩ := trodAll_cons r0
  obtain ⟨v2, vs2, d2, ds2, p2, q2, rfl, rfl, rfl, h2, r2⟩ := trodAll_cons r1
  obtain ⟨rfl, rfl, rfl⟩ := trodAll_nil r2
  obtain rfl : args = #[v0, v1, v2] := by cases args; simp_all
  obtain ⟨rfl, rfl⟩ := trodVars_none hV
  have k0 := h0
  have lt0 : ∀ x ∈ p0, x.block < W.heap.size := by obtain ⟨m, hm⟩ := k0; exact DataW.trod_lt m _ _ _ hm
  have k1 := h1
  have lt1 : ∀ x ∈ p1, x.block < W.heap.size := by obtain ⟨m, hm⟩ := k1; exact DataW.trod_lt m _ _ _ hm
  have k2 := h2
  have lt2 : ∀ x ∈ p2, x.block < W.heap.size := by obtain ⟨m, hm⟩ := k2; exact DataW.trod_lt m _ _ _ hm
  obtain ⟨a0, a1, a2, rfl, wfa0, wfa1, wfa2⟩ := arr3_open Tryd.underlying40 (show Tryd.prog.cellsOf 40 = 3 by kernel_rfl) Tryd.underlying39 (show Tryd.prog.cellsOf 39 = 1 by kernel_rfl) (hval 0 40 v0 rfl rfl) h0
  have bda0 := bounds_u16 wfa0
  have bda1 := bounds_u16 wfa1
  have bda2 := bounds_u16 wfa2
  obtain ⟨b0, b1, b2, rfl, wfb0, wfb1, wfb2⟩ := arr3_open Tryd.underlying40 (show Tryd.prog.cellsOf 40 = 3 by kernel_rfl) Tryd.underlying39 (show Tryd.prog.cellsOf 39 = 1 by kernel_rfl) (hval 1 40 v1 rfl rfl) h1
  have bdb0 := bounds_u16 wfb0
  have bdb1 := bounds_u16 wfb1
  have bdb2 := bounds_u16 wfb2
  obtain ⟨at0, rfl, _, _, wfat0⟩ := open_int Tryd.underlying39 (hval 2 39 v2 rfl rfl) h2
  have bdat0 := bounds_u16 wfat0
  clear hA0 hval0
  refine (law6 a0 a1 a2 b0 b1 b2 at0 W (env_of hL) bda0.1 bda1.1 bda2.1 bdb0.1 bdb1.1 bdb2.1 bda0.2 bda1.2 bda2.2 bdb0.2 bdb1.2 bdb2.2 bdat0.1 bdat0.2).mono fun e W' ⟨he, bel⟩ => ?_
  subst he
  exact ⟨_, rfl, _, _, _, [], _, [], hW', trodAll_mk1 (shut_bool Tryd.underlying4 _), (trodAll_cons_mk (Below.trod laidOut (by kernel_rfl) (of_decide_eq_true (by kernel_rfl)) k0 bel lt0) (trodAll_cons_mk (Below.trod laidOut (by kernel_rfl) (of_decide_eq_true (by kernel_rfl)) k1 bel lt1) (trodAll_cons_mk (Below.trod laidOut (by kernel_rfl) (of_decide_eq_true (by kernel_rfl)) k2 bel lt2) trodAll_mk0))), rfl, Below.frame bel _, fun h => by cases h⟩

theorem addrCheckIsMonotone_said : Rows.AddrCheckIsMonotoneSaid :=
  OpenClaim.holds_of_wide 6 Tryd.f6 rfl rfl rfl rfl rfl rfl rfl ⟨rfl, rfl, rfl, rfl, rfl⟩ rfl rfl rfl rfl rfl (by kernel_rfl) Tryd.func6 (by kernel_rfl)
    (of_decide_eq_true (by kernel_rfl)) (by unfold Func.isWrapper; first | (rw [if_pos (by decide +kernel)]; kernel_rfl) | (rw [if_neg (by decide +kernel)]; exact ⟨rfl, rfl⟩))
    (fun os started H enc _ => addrCheckIsMonotone_lifted os started H enc)

theorem addrCheckIsMonotone_plain (f : FuncId) (fn : Func) (hf : Tryd.pinned.checked.prog.funcNamed "busbar/busbarlaw01.AddrCheckIsMonotone" = some f) (hfn : Tryd.pinned.checked.prog.funcs[f]? = some fn) :
    false = Tryd.pinned.checked.prog.looks [] ∧ ∀ (j : Nat) t, fn.params[j]? = some t → Tryd.pinned.checked.prog.wantsStandIn t = false := by
  obtain rfl : f = 6 := Option.some.inj ((show Tryd.prog.funcNamed "busbar/busbarlaw01.AddrCheckIsMonotone" = some 6 by kernel_rfl).symm.trans hf) |>.symm
  obtain rfl : fn = Tryd.f6 := (Option.some.inj (Tryd.func6.symm.trans hfn)).symm
  refine ⟨by kernel_rfl, fun j t ht => ?_⟩
  rw [Tryd.params6] at ht
  have hm : t ∈ [40, 40, 39] := by simpa using Array.mem_of_getElem? ht
  have hall : ([40, 40, 39].all fun u => !Tryd.prog.wantsStandIn u) = true := by kernel_rfl
  exact (show Tryd.prog.wantsStandIn t = false by simpa using List.all_eq_true.1 hall t hm)

/-- THE CARD. -/
theorem addrCheckIsMonotone_card : Rows.AddrCheckIsMonotoneCardSaid :=
  Claim7.holds_tied_plain_at .later [] _ _ _ _ addrCheckIsMonotone_said (fun _ h => by cases h) (by kernel_rfl) (fun _ h => by cases h) addrCheckIsMonotone_row_tie rfl ⟨rfl, rfl⟩ (by kernel_rfl) rfl addrCheckIsMonotone_plain (by kernel_rfl)
end Go.Proofs.YtfkjggghlkondaaDoor
