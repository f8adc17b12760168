/- What the reference's Parse returns. Conditions: a text of at most the model's greatest length. -/
import Derived.Test.YtfnmjbapjngmaaaDoorJD
import Derived.Deep.QuietTactic
import Derived.BigQuiet
namespace Go.Proofs.YtfnmjbapjngmaaaDoor
open Go.RowKit

/-- The text of the three letters, as the program holds it. -/
abbrev IQM : ByteArray := { data := #[73, 81, 77] }
theorem ltr_no {c d : UInt8} (h : c ≠ d) : ((c.toNat : Int) == (d.toNat : Int)) = false := by
  rw [beq_eq_false_iff_ne]; intro e; exact h (UInt8.toNat.inj (by omega))
theorem ltr_yes {c d : UInt8} (h : c = d) : ((c.toNat : Int) == (d.toNat : Int)) = true := by rw [h]; simp

set_option maxHeartbeats 800000 in
theorem aRefParse_any (s : ByteArray) (hs : s.size ≤ maxLen) (w : World) :
    Calls Tryd.prog 31 #[.string s] w fun e w' => e = .returned (.tuple #[.agg #[.int .i64 (parL (B s)).1, .int .i64 (parL (B s)).2.1], .int .i64 (parL (B s)).2.2]) ∧ Nx w w' := by
  by_cases h0 : s.size = 0
  · have he := isEmpty_yes s h0
    have HR := Lib.hid (parL_nil s h0)
    go_enter Tryd.func31, Tryd.ntmps31
    go_wp2
    refine wp_loop_rounds 4 ?_
    iterate 3 (rw [rounds_succ]; go_wp2; go_quiet (fail); go_wp2)
    rw [rounds_succ]
    go_wp2
    go_returns
    exact ⟨ret_par HR.out, by repeat (first | exact Nx.refl _ | refine Nx.drewN ?_ _ | refine Nx.drew ?_ | refine Nx.alloc ?_ _ | refine Nx.setCell ?_ (Nat.le_refl _) _)⟩
  · have he := isEmpty_no s h0
    have hp : 0 < s.size := by omega
    have HC := Lib.hid (B_cons s hp)
    have c2 := number_any (s.extract 1 s.size) (Nat.le_trans (size_tail s) hs)
    have C2 := Lib.hid c2
    clear c2
    generalize hpn : pnum (B (s.extract 1 s.size)) = pn at *
    obtain ⟨n, er⟩ := pn
    by_cases hI : s[0] = 73
    · have d0 := ltr_yes (show s[0] = IQM[0] from hI)
      have hsp : spO s[0] = (0, true) := by unfold spO; rw [if_pos hI]
      clear hI
      by_cases her : er = 0
      · have HR := Lib.hid (show parL (B s) = (0, n, 0) by rw [HC.out]; simp [parL, hsp, hpn, her])
        subst her
        clear hsp hpn
        go_enter Tryd.func31, Tryd.ntmps31
        go_wp2
        refine wp_loop_rounds 4 ?_
        rw [rounds_succ]
        go_wp2
        go_quiet (fail)
        go_wp2_with (go_at_call 32; refine (C2.out _).mono ?_; rintro e w' ⟨rfl, rfl⟩)
        go_returns
        exact ⟨ret_par HR.out, by repeat (first | exact Nx.refl _ | refine Nx.drewN ?_ _ | refine Nx.drew ?_ | refine Nx.alloc ?_ _ | refine Nx.setCell ?_ (Nat.le_refl _) _)⟩
      · have HR := Lib.hid (show parL (B s) = (0, 0, er) by rw [HC.out]; simp [parL, hsp, hpn, her])
        have hne : (er == 0) = false := by simpa using her
        clear hsp hpn her
        go_enter Tryd.func31, Tryd.ntmps31
        go_wp2
        refine wp_loop_rounds 4 ?_
        rw [rounds_succ]
        go_wp2
        go_quiet (fail)
        go_wp2_with (go_at_call 32; refine (C2.out _).mono ?_; rintro e w' ⟨rfl, rfl⟩)
        go_returns
        exact ⟨ret_par HR.out, by repeat (first | exact Nx.refl _ | refine Nx.drewN ?_ _ | refine Nx.drew ?_ | refine Nx.alloc ?_ _ | refine Nx.setCell ?_ (Nat.le_refl _) _)⟩
    · have d0 := ltr_no (show s[0] ≠ IQM[0] from hI)
      have nI := hI
      by_cases hQ : s[0] = 81
      · have d1 := ltr_yes (show s[0] = IQM[1] from hQ)
        have hsp : spO s[0] = (1, true) := by unfold spO; rw [if_neg nI, if_pos hQ]
        clear hI hQ nI
        by_cases her : er = 0
        · have HR := Lib.hid (show parL (B s) = (1, n, 0) by rw [HC.out]; simp [parL, hsp, hpn, her])
          subst her
          clear hsp hpn
          go_enter Tryd.func31, Tryd.ntmps31
          go_wp2
          refine wp_loop_rounds 4 ?_
          iterate 1 (rw [rounds_succ]; go_wp2; go_quiet (fail); go_wp2)
          rw [rounds_succ]
          go_wp2
          go_quiet (fail)
          go_wp2_with (go_at_call 32; refine (C2.out _).mono ?_; rintro e w' ⟨rfl, rfl⟩)
          go_returns
          exact ⟨ret_par HR.out, by repeat (first | exact Nx.refl _ | refine Nx.drewN ?_ _ | refine Nx.drew ?_ | refine Nx.alloc ?_ _ | refine Nx.setCell ?_ (Nat.le_refl _) _)⟩
        · have HR := Lib.hid (show parL (B s) = (0, 0, er) by rw [HC.out]; simp [parL, hsp, hpn, her])
          have hne : (er == 0) = false := by simpa using her
          clear hsp hpn her
          go_enter Tryd.func31, Tryd.ntmps31
          go_wp2
          refine wp_loop_rounds 4 ?_
          iterate 1 (rw [rounds_succ]; go_wp2; go_quiet (fail); go_wp2)
          rw [rounds_succ]
          go_wp2
          go_quiet (fail)
          go_wp2_with (go_at_call 32; refine (C2.out _).mono ?_; rintro e w' ⟨rfl, rfl⟩)
          go_returns
          exact ⟨ret_par HR.out, by repeat (first | exact Nx.refl _ | refine Nx.drewN ?_ _ | refine Nx.drew ?_ | refine Nx.alloc ?_ _ | refine Nx.setCell ?_ (Nat.le_refl _) _)⟩
      · have d1 := ltr_no (show s[0] ≠ IQM[1] from hQ)
        have nQ := hQ
        by_cases hM : s[0] = 77
        · have d2 := ltr_yes (show s[0] = IQM[2] from hM)
          have hsp : spO s[0] = (2, true) := by unfold spO; rw [if_neg nI, if_neg nQ, if_pos hM]
          clear hI hQ hM nI nQ
          by_cases her : er = 0
          · have HR := Lib.hid (show parL (B s) = (2, n, 0) by rw [HC.out]; simp [parL, hsp, hpn, her])
            subst her
            clear hsp hpn
            go_enter Tryd.func31, Tryd.ntmps31
            go_wp2
            refine wp_loop_rounds 4 ?_
            iterate 2 (rw [rounds_succ]; go_wp2; go_quiet (fail); go_wp2)
            rw [rounds_succ]
            go_wp2
            go_quiet (fail)
            go_wp2_with (go_at_call 32; refine (C2.out _).mono ?_; rintro e w' ⟨rfl, rfl⟩)
            go_returns
            exact ⟨ret_par HR.out, by repeat (first | exact Nx.refl _ | refine Nx.drewN ?_ _ | refine Nx.drew ?_ | refine Nx.alloc ?_ _ | refine Nx.setCell ?_ (Nat.le_refl _) _)⟩
          · have HR := Lib.hid (show parL (B s) = (0, 0, er) by rw [HC.out]; simp [parL, hsp, hpn, her])
            have hne : (er == 0) = false := by simpa using her
            clear hsp hpn her
            go_enter Tryd.func31, Tryd.ntmps31
            go_wp2
            refine wp_loop_rounds 4 ?_
            iterate 2 (rw [rounds_succ]; go_wp2; go_quiet (fail); go_wp2)
            rw [rounds_succ]
            go_wp2
            go_quiet (fail)
            go_wp2_with (go_at_call 32; refine (C2.out _).mono ?_; rintro e w' ⟨rfl, rfl⟩)
            go_returns
            exact ⟨ret_par HR.out, by repeat (first | exact Nx.refl _ | refine Nx.drewN ?_ _ | refine Nx.drew ?_ | refine Nx.alloc ?_ _ | refine Nx.setCell ?_ (Nat.le_refl _) _)⟩
        · have d2 := ltr_no (show s[0] ≠ IQM[2] from hM)
          have nM := hM
          have hsp : spO s[0] = (0, false) := by unfold spO; rw [if_neg nI, if_neg nQ, if_neg nM]
          have HR := Lib.hid (show parL (B s) = (0, 0, 6) by rw [HC.out]; simp [parL, hsp])
          clear hI hQ hM nI nQ nM hsp hpn
          go_enter Tryd.func31, Tryd.ntmps31
          go_wp2
          refine wp_loop_rounds 4 ?_
          iterate 3 (rw [rounds_succ]; go_wp2; go_quiet (fail); go_wp2)
          rw [rounds_succ]
          go_wp2
          go_returns
          exact ⟨ret_par HR.out, by repeat (first | exact Nx.refl _ | refine Nx.drewN ?_ _ | refine Nx.drew ?_ | refine Nx.alloc ?_ _ | refine Nx.setCell ?_ (Nat.le_refl _) _)⟩
end Go.Proofs.YtfnmjbapjngmaaaDoor
