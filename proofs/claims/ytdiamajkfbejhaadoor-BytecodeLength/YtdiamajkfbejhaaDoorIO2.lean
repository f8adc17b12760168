/- What the reference's Check of layer 4 returns. Conditions: none. -/
import Derived.Test.YtdiamajkfbejhaaDoorIO1
namespace Go.Proofs.YtdiamajkfbejhaaDoor
open Go.RowKit

/-- What Check answers behind the operands' form. -/
def chk2 (f e k N at' many : Int) : Int := if f = 3 ∧ k = 0 then 8 else if f = 2 ∧ (N < 0 ∨ e ≤ N) then 3 else if f = 4 ∧ (N < 0 ∨ many ≤ N) then 3 else if f = 4 ∧ N ≤ at' then 17 else 0
def chk1 (cs f : Int) (cl : Bool) (ca e k N at' many : Int) : Int :=
  if cs = 3 then 3 else if f = -1 then 8 else if cl = false then 2 else if (1 ≤ f ∧ f ≤ 3) ∧ ca ≠ 0 then ca else chk2 f e k N at' many
def chk (i q m e o k n N at' many : Int) : Int := chk1 (csz i q m e) (frm o) (cln (frm o) k n N) (cad i q m k n) e k N at' many
theorem csz_in (i q m e : Int) : csz i q m e = 0 ∨ csz i q m e = 3 := by unfold csz; split; exact Or.inl rfl; exact Or.inr rfl

set_option maxHeartbeats 3200000 in
set_option maxRecDepth 100000 in
theorem refCheck_any (i q m e o k n N at' many : Int) (w : World) :
    Calls Tryd.prog 39 #[.agg #[.int .i64 i, .int .i64 q, .int .i64 m, .int .i64 e], .agg #[.int .i64 o, .int .i64 k, .int .i64 n, .int .i64 N], .int .i64 at', .int .i64 many] w fun r w' => r = .returned (.int .i64 (chk i q m e o k n N at' many)) ∧ Nx w w' := by
  have CS := Lib.hid (refCheckSize_any i q m e)
  have FM := Lib.hid (refForm_any o)
  have CL := Lib.hid (refClean_any o k n N)
  have CA := Lib.hid (refCheckAddr_any i q m e k n)
  have hc := csz_in i q m e
  have hf := frm_in o
  unfold chk
  generalize csz i q m e = cs at *
  generalize cad i q m k n = ca at *
  generalize frm o = f at *
  generalize cln f k n N = cl at *
  generalize hres : chk1 cs f cl ca e k N at' many = R at *
  have HR := Lib.hid hres
  clear hres
  have N0 := Lib.hid (show Nx w ((w.alloc (.cells #[.int .i64 i, .int .i64 q, .int .i64 m, .int .i64 e] 23)).alloc (.cells #[.int .i64 o, .int .i64 k, .int .i64 n, .int .i64 N] 46)) from (Nx.one _ _).alloc _)
  have XS := Lib.hid ((bx_new w 23 [.int .i64 i, .int .i64 q, .int .i64 m, .int .i64 e]).nx (Nx.one _ (.cells #[.int .i64 o, .int .i64 k, .int .i64 n, .int .i64 N] 46)))
  have XI := Lib.hid (bx_new (w.alloc (.cells #[.int .i64 i, .int .i64 q, .int .i64 m, .int .i64 e] 23)) 46 [.int .i64 o, .int .i64 k, .int .i64 n, .int .i64 N])
  rw [show (w.alloc (.cells #[.int .i64 i, .int .i64 q, .int .i64 m, .int .i64 e] 23)).heap.size = w.heap.size + 1 by simp] at XI
  have HF := Lib.hid hf
  clear hf
  go_enter Tryd.func39, Tryd.ntmps39
  go_wp2_with fail
  generalize hh1 : w.heap.size + 1 = h1 at *
  generalize hh0 : w.heap.size = h0 at *
  generalize (w.alloc (.cells #[.int .i64 i, .int .i64 q, .int .i64 m, .int .i64 e] 23)).alloc (.cells #[.int .i64 o, .int .i64 k, .int .i64 n, .int .i64 N] 46) = W at *
  have HS := Lib.hid (show ∀ w', Nx W w' → ((w'.cell? ⟨h0, 0, none⟩ = some (.int .i64 i) ∧ w'.cell? ⟨h0, 1, none⟩ = some (.int .i64 q) ∧ w'.cell? ⟨h0, 2, none⟩ = some (.int .i64 m) ∧ w'.cell? ⟨h0, 3, none⟩ = some (.int .i64 e)) ∧ (w'.cell? ⟨h1, 0, none⟩ = some (.int .i64 o) ∧ w'.cell? ⟨h1, 1, none⟩ = some (.int .i64 k) ∧ w'.cell? ⟨h1, 2, none⟩ = some (.int .i64 n) ∧ w'.cell? ⟨h1, 3, none⟩ = some (.int .i64 N))) from fun w' h =>
    ⟨⟨(XS.out.nx h).cell 0 rfl, (XS.out.nx h).cell 1 rfl, (XS.out.nx h).cell 2 rfl, (XS.out.nx h).cell 3 rfl⟩, ⟨(XI.out.nx h).cell 0 rfl, (XI.out.nx h).cell 1 rfl, (XI.out.nx h).cell 2 rfl, (XI.out.nx h).cell 3 rfl⟩⟩)
  clear XS XI hh1 hh0
  refine (CS.out _).mono ?_
  rintro r w1 ⟨rfl, q1⟩
  have H1 := Lib.hid q1
  clear q1
  rcases hc with rfl | rfl
  rotate_left
  · go_wp2
    go_ret
    exact ⟨ret_int (by rw [← HR.out]; simp [chk1]), N0.out.trans H1.out⟩
  obtain ⟨⟨a1, a2, a3, a4⟩, a5, a6, a7, a8⟩ := HS.out w1 H1.out
  go_wp2_with fail
  refine (FM.out _).mono ?_
  rintro r w' ⟨rfl, rfl⟩
  have hF := HF.out
  by_cases hm : f = -1
  · subst hm
    go_wp2
    go_ret
    exact ⟨ret_int (by rw [← HR.out]; simp [chk1]), N0.out.trans H1.out⟩
  have hf0 : ¬ f < 0 := by omega
  go_wp2_with fail
  refine (CL.out _).mono ?_
  rintro r w2 ⟨rfl, q2⟩
  have H2 := Lib.hid (H1.out.trans q2)
  have HM := Lib.hid hm
  clear q2 a1 a2 a3 a4 a5 a6 a7 a8 hf0 hm hF
  cases cl
  · go_wp2
    go_ret
    exact ⟨ret_int (by rw [← HR.out]; simp [chk1, HM.out]), N0.out.trans H2.out⟩
  obtain ⟨⟨a1, a2, a3, a4⟩, a5, a6, a7, a8⟩ := HS.out w2 H2.out
  rcases HF.out with rfl | rfl | rfl | rfl | rfl | rfl
  · exact absurd rfl HM.out
  · go_wp2
    go_ret
    exact ⟨ret_int (by rw [← HR.out]; unfold chk1 chk2; first | (simp [*]; done) | (simp [*]; omega)), N0.out.trans H2.out⟩
  · go_wp2_with fail
    refine (CA.out _).mono ?_
    rintro r w3 ⟨rfl, q3⟩
    have H3 := Lib.hid (H2.out.trans q3)
    clear q3 a1 a2 a3 a4 a5 a6 a7 a8
    obtain ⟨⟨a1, a2, a3, a4⟩, a5, a6, a7, a8⟩ := HS.out w3 H3.out
    by_cases c0 : ca = 0
    rotate_left
    · have t1 : (ca == 0) = false := by simpa using c0
      have t2 : (ca != 0) = true := by simpa using c0
      go_wp2
      go_ret
      exact ⟨ret_int (by rw [← HR.out]; unfold chk1 chk2; first | (simp [*]; done) | (simp [*]; omega)), N0.out.trans H3.out⟩
    subst c0
    go_wp2
    go_ret
    exact ⟨ret_int (by rw [← HR.out]; unfold chk1 chk2; first | (simp [*]; done) | (simp [*]; omega)), N0.out.trans H3.out⟩
  · go_wp2_with fail
    refine (CA.out _).mono ?_
    rintro r w3 ⟨rfl, q3⟩
    have H3 := Lib.hid (H2.out.trans q3)
    clear q3 a1 a2 a3 a4 a5 a6 a7 a8
    obtain ⟨⟨a1, a2, a3, a4⟩, a5, a6, a7, a8⟩ := HS.out w3 H3.out
    by_cases c0 : ca = 0
    rotate_left
    · have t1 : (ca == 0) = false := by simpa using c0
      have t2 : (ca != 0) = true := by simpa using c0
      go_wp2
      go_ret
      exact ⟨ret_int (by rw [← HR.out]; unfold chk1 chk2; first | (simp [*]; done) | (simp [*]; omega)), N0.out.trans H3.out⟩
    subst c0
    by_cases n0 : N < 0
    · go_wp2
      go_ret
      exact ⟨ret_int (by rw [← HR.out]; unfold chk1 chk2; first | (simp [*]; done) | (simp [*]; omega)), N0.out.trans H3.out⟩
    by_cases n1 : e ≤ N
    · go_wp2
      go_ret
      exact ⟨ret_int (by rw [← HR.out]; unfold chk1 chk2; first | (simp [*]; done) | (simp [*]; omega)), N0.out.trans H3.out⟩
    go_wp2
    go_ret
    exact ⟨ret_int (by rw [← HR.out]; unfold chk1 chk2; first | (simp [*]; done) | (simp [*]; omega)), N0.out.trans H3.out⟩
  · go_wp2_with fail
    refine (CA.out _).mono ?_
    rintro r w3 ⟨rfl, q3⟩
    have H3 := Lib.hid (H2.out.trans q3)
    clear q3 a1 a2 a3 a4 a5 a6 a7 a8
    obtain ⟨⟨a1, a2, a3, a4⟩, a5, a6, a7, a8⟩ := HS.out w3 H3.out
    by_cases c0 : ca = 0
    rotate_left
    · have t1 : (ca == 0) = false := by simpa using c0
      have t2 : (ca != 0) = true := by simpa using c0
      go_wp2
      go_ret
      exact ⟨ret_int (by rw [← HR.out]; unfold chk1 chk2; first | (simp [*]; done) | (simp [*]; omega)), N0.out.trans H3.out⟩
    subst c0
    by_cases k0 : k = 0
    · subst k0
      go_wp2
      go_ret
      exact ⟨ret_int (by rw [← HR.out]; unfold chk1 chk2; first | (simp [*]; done) | (simp [*]; omega)), N0.out.trans H3.out⟩
    have t0 : (k == 0) = false := by simpa using k0
    go_wp2
    go_ret
    exact ⟨ret_int (by rw [← HR.out]; unfold chk1 chk2; first | (simp [*]; done) | (simp [*]; omega)), N0.out.trans H3.out⟩
  · by_cases n0 : N < 0
    · go_wp2
      go_ret
      exact ⟨ret_int (by rw [← HR.out]; unfold chk1 chk2; first | (simp [*]; done) | (simp [*]; omega)), N0.out.trans H2.out⟩
    by_cases n1 : many ≤ N
    · go_wp2
      go_ret
      exact ⟨ret_int (by rw [← HR.out]; unfold chk1 chk2; first | (simp [*]; done) | (simp [*]; omega)), N0.out.trans H2.out⟩
    by_cases n2 : N ≤ at'
    · go_wp2
      go_ret
      exact ⟨ret_int (by rw [← HR.out]; unfold chk1 chk2; first | (simp [*]; done) | (simp [*]; omega)), N0.out.trans H2.out⟩
    go_wp2
    go_ret
    exact ⟨ret_int (by rw [← HR.out]; unfold chk1 chk2; first | (simp [*]; done) | (simp [*]; omega)), N0.out.trans H2.out⟩
end Go.Proofs.YtdiamajkfbejhaaDoor
