/- The walk of VerifyCheckMatchesReference. Conditions: the table of opcodes holds what the program's text lays; a program that reads as a list. -/
import Derived.Test.YtdpccnpaajhliaaDoorIN7
import Derived.Test.YtdpccnpaajhliaaDoorIN8
namespace Go.Proofs.YtdpccnpaajhliaaDoor
open Go.RowKit

set_option maxHeartbeats 6400000 in
set_option maxRecDepth 100000 in
theorem law7_check (i q m e : Int) (A : Option Addr) (code : List In4) (n c : Nat) (hn : code.length = n ∧ n ≤ maxLen) (w : World) (hr : RdC w A code) (he : Ev w) :
    Calls Tryd.prog 3 #[pgV i q m e A n c] w fun r w' => r = .returned (.bool true) ∧ Nx w w' := by
  have hl := hn.2
  have CK := Lib.hid (fun w' (h : Nx w w') => check_any i q m e A code n c hn.1 hn.2 w' (hr.nx h) (he.nx h))
  have CR := Lib.hid (fun w' (h : Nx w w') => refCheck7_any i q m e A code n c hn.1 hn.2 w' (hr.nx h))
  have CV := Lib.hid (fun w' (h : Nx w w') => valid_any i q m e A code n c hn.1 hn.2 w' (hr.nx h) (he.nx h))
  have AL := Lib.hid (fun w' (h : Nx w w') => alive7_any w' (he.nx h))
  obtain ⟨Z, hZ⟩ : ∃ Z, ckA i q m e code = Z := ⟨_, rfl⟩
  rw [hZ] at CK CR CV
  obtain ⟨a, b, R⟩ := Z
  obtain ⟨B, hB⟩ : ∃ B, decide (R = 0) = B := ⟨_, rfl⟩
  simp only at CK CR CV
  rw [hB] at CV
  have HB := Lib.hid hB
  clear hB hZ hn hr he
  unfold maxLen at hl
  have N0 := Lib.hid (Nx.one w (.cells #[.int .i64 i, .int .i64 q, .int .i64 m, .int .i64 e, .slice A n c] 26))
  have XP := Lib.hid (bx_new w 26 (pgC i q m e A n c))
  unfold pgV at CK CR CV ⊢
  go_enter Tryd.func3, Tryd.ntmps3
  have x4 := XP.out.cell 4 rfl
  by_cases hb : 1000 < n
  · have hbi : (1000 : Int) < (n : Int) := by omega
    go_wp2_with fail
    refine (AL.out _ N0.out).mono ?_
    rintro r w1 ⟨rfl, q1⟩
    go_wp2_with fail
    go_ret
    exact ⟨rfl, N0.out.trans q1⟩
  have hbi : ¬ (1000 : Int) < (n : Int) := by omega
  have x0 := XP.out.cell 0 rfl
  have x1 := XP.out.cell 1 rfl
  have x2 := XP.out.cell 2 rfl
  have x3 := XP.out.cell 3 rfl
  go_wp2_with fail
  rw [show (w.alloc (.cells (pgC i q m e A n c).toArray 26)) = w.alloc (.cells #[.int .i64 i, .int .i64 q, .int .i64 m, .int .i64 e, .slice A n c] 26) from rfl] at XP
  clear x0 x1 x2 x3 x4
  generalize w.alloc (.cells #[.int .i64 i, .int .i64 q, .int .i64 m, .int .i64 e, .slice A n c] 26) = W at *
  generalize w.heap.size = g at *
  refine (CK.out W N0.out).mono ?_
  rintro r w1 ⟨rfl, q1⟩
  have K1 := Lib.hid q1
  clear q1
  have x0 := (XP.out.nx K1.out).cell 0 rfl
  have x1 := (XP.out.nx K1.out).cell 1 rfl
  have x2 := (XP.out.nx K1.out).cell 2 rfl
  have x3 := (XP.out.nx K1.out).cell 3 rfl
  have x4 := (XP.out.nx K1.out).cell 4 rfl
  go_wp2_with fail
  refine (CR.out w1 (N0.out.trans K1.out)).mono ?_
  rintro r w2 ⟨rfl, q2⟩
  have K2 := Lib.hid (K1.out.trans q2)
  clear q2 x0 x1 x2 x3 x4
  have HS := Lib.hid (show ∀ w', Nx w2 w' → w'.cell? ⟨g, 0, none⟩ = some (.int .i64 i) ∧ w'.cell? ⟨g, 1, none⟩ = some (.int .i64 q) ∧ w'.cell? ⟨g, 2, none⟩ = some (.int .i64 m) ∧ w'.cell? ⟨g, 3, none⟩ = some (.int .i64 e) ∧ w'.cell? ⟨g, 4, none⟩ = some (.slice A n c) from fun w' h =>
    ⟨(XP.out.nx (K2.out.trans h)).cell 0 rfl, (XP.out.nx (K2.out.trans h)).cell 1 rfl, (XP.out.nx (K2.out.trans h)).cell 2 rfl, (XP.out.nx (K2.out.trans h)).cell 3 rfl, (XP.out.nx (K2.out.trans h)).cell 4 rfl⟩)
  have AL2 := Lib.hid (fun w' (h : Nx w2 w') => AL.out w' ((N0.out.trans K2.out).trans h))
  have CV2 := Lib.hid (fun w' (h : Nx w2 w') => CV.out w' ((N0.out.trans K2.out).trans h))
  obtain ⟨x0, x1, x2, x3, x4⟩ := HS.out w2 (Nx.refl _)
  have hBR : (R == 0) = B := by rw [← HB.out]; rfl
  go_wp2_with fail
  refine (AL2.out w2 (Nx.refl _)).mono ?_
  rintro r w3 ⟨rfl, q3⟩
  clear x0 x1 x2 x3 x4
  obtain ⟨x0, x1, x2, x3, x4⟩ := HS.out w3 q3
  have e1 : ((a : Int) == (a : Int)) = true := by simp
  have e2 : ((b : Int) == (b : Int)) = true := by simp
  have e3 : (R == R) = true := by simp
  go_wp2_with fail
  refine (CV2.out w3 q3).mono ?_
  rintro r w4 ⟨rfl, q4⟩
  have K4 := Lib.hid (N0.out.trans (K2.out.trans (q3.trans q4)))
  clear x0 x1 x2 x3 x4 q3 q4 HS
  cases B
  all_goals
    go_wp2_with fail
    go_ret
    exact ⟨rfl, K4.out⟩
end Go.Proofs.YtdpccnpaajhliaaDoor
