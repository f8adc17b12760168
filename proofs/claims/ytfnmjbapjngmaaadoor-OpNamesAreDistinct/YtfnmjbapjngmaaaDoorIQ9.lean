/- What parseNumber of layer 4 returns. Conditions: a text of at most 100000 bytes; the listed package-level variables hold what the program's text lays. -/
import Derived.Test.YtfnmjbapjngmaaaDoorIQ7
namespace Go.Proofs.YtfnmjbapjngmaaaDoor
open Go.RowKit

/-- What strconv.Atoi says, in the words of these walks. -/
theorem atoi_any (s : ByteArray) (hs : s.size ≤ 100000) (w : World) (he : Ev w) : Calls Tryd.prog 63 #[.string s] w fun e w' =>
    ((∃ v, Lib.atoiAll (B s) = .ok v ∧ e = .returned (.tuple #[.int .i64 v, .nilIface])) ∨ (∃ v T p, (∀ v', Lib.atoiAll (B s) ≠ .ok v') ∧ e = .returned (.tuple #[.int .i64 v, .iface T (.pointer (some p))]))) ∧ Nx w w' := by
  cases h : Lib.atoiAll (B s)
  · rename_i v
    refine (Tryd.strconv_Atoi_ok s (by omega) v h w).mono ?_
    rintro e w' ⟨rfl, hw⟩
    refine ⟨Or.inl ⟨v, rfl, rfl⟩, ?_⟩
    rcases hw with rfl | ⟨t, rfl⟩
    · exact Nx.refl _
    · exact Lib.bytesWorld_below _ _ _
  · obtain ⟨tp, p, hv⟩ := he.es
    refine (Tryd.strconv_Atoi_syntax_var s (by omega) h tp p w hv).mono ?_
    rintro e w' ⟨N, rfl, _, _, hb⟩
    exact ⟨Or.inr ⟨_, _, _, (fun v' e => by cases e), rfl⟩, hb⟩
  · obtain ⟨tp, p, hv⟩ := he.er
    refine (Tryd.strconv_Atoi_range_var s (by omega) h tp p w hv).mono ?_
    rintro e w' ⟨N, rfl, _, _, hb⟩
    exact ⟨Or.inr ⟨_, _, _, (fun v' e => by cases e), rfl⟩, hb⟩

theorem ret_ib' {a : Int} {b : Bool} {p : Int × Bool} (h : p = (a, b)) : Ending.returned (.tuple #[.int .i64 a, .bool b]) = .returned (.tuple #[.int .i64 p.1, .bool p.2]) := by rw [h]
set_option maxHeartbeats 800000 in
theorem parseNum_any (s : ByteArray) (hs : s.size ≤ 100000) (w : World) (he : Ev w) : Calls Tryd.prog 54 #[.string s] w fun e w' => e = .returned (.tuple #[.int .i64 (dnum (B s)).1, .bool (dnum (B s)).2]) ∧ Nx w w' := by
  have HE := Lib.hid he
  have HA := Lib.hid (atoi_any s hs w he)
  clear he
  have HY := Lib.hid (dnum_yes s)
  have HN := Lib.hid (dnum_no s)
  go_enter Tryd.func54, Tryd.ntmps54
  go_wp2_with fail
  refine HA.out.mono ?_
  rintro e w1 ⟨h, q1⟩
  have H1 := Lib.hid q1
  have HF := Lib.hid (fun v => formatNumber_any v w1 (HE.out.nx q1).e)
  clear q1 HA HE hs
  rcases h with ⟨v, ha, rfl⟩ | ⟨v, T, p, ha, rfl⟩
  rotate_left
  · have HR := Lib.hid (HN.out (fun v h => absurd h (ha v)))
    clear HY HN ha HF
    go_wp2
    go_ret2
    exact ⟨ret_ib' HR.out, H1.out⟩
  have HV := Lib.hid ha
  have HG := Lib.hid (HF.out v)
  clear ha HF
  by_cases hq : B (fnum v) = B s
  · have e := eq_yes hq
    have HR := Lib.hid (HY.out v HV.out (B_inj hq))
    clear hq HY HN HV
    generalize fnum v = fn at *
    go_wp2_with (go_at_call 52; refine HG.out.mono ?_; rintro e w' ⟨rfl, h⟩)
    go_ret2
    exact ⟨ret_ib' HR.out, H1.out.trans h⟩
  · have e := eq_no hq
    have HR := Lib.hid (HN.out (fun v' hv' he => by
      have hvv : Lib.NumEnd.ok v' = Lib.NumEnd.ok v := hv'.symm.trans HV.out
      injection hvv with hvv
      subst hvv
      exact hq (congrArg B he)))
    clear hq HY HN HV
    generalize fnum v = fn at *
    go_wp2_with (go_at_call 52; refine HG.out.mono ?_; rintro e w' ⟨rfl, h⟩)
    go_ret2
    exact ⟨ret_ib' HR.out, H1.out.trans h⟩
end Go.Proofs.YtfnmjbapjngmaaaDoor
