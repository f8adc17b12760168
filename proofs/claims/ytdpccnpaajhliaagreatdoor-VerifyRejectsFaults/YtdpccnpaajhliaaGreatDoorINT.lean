/- The walk of VerifyRejectsFaults. Conditions: the table of opcodes holds what the program's text lays; a program and images that read as lists; images of at most the form's own reach. -/
import Derived.Test.YtdpccnpaajhliaaGreatDoorINS
import Derived.Test.YtdpccnpaajhliaaGreatDoorIR8
import Derived.Test.YtdpccnpaajhliaaGreatDoorMC
namespace Go.Proofs.YtdpccnpaajhliaaGreatDoor
open Go.RowKit

theorem ins_app8 (a b : List In4) : ins (a ++ b) = ins a ++ ins b := by
  induction a with
  | nil => rfl
  | cons x l ih => simp [ins, ih]
def xW (x : In4) : List Value := [.int .i64 x.op, .int .i64 x.k, .int .i64 x.n, .int .i64 x.t]
theorem RdC.bx8 {w : World} {g : Nat} {code : List In4} {T : TypeId} (h : Bx w g T (ins code)) : RdC w (some ⟨g, 0, none⟩) code := fun k x hk => by
  obtain ⟨h1, h2, h3, h4⟩ := ins_get code k x hk
  refine ⟨_, rfl, ?_, ?_, ?_, ?_⟩
  · rw [Addr.add_lit, Nat.zero_add]; exact h.cell _ h1
  · rw [Addr.add_lit, Nat.zero_add]; exact h.cell _ h2
  · rw [Addr.add_lit, Nat.zero_add]; exact h.cell _ h3
  · rw [Addr.add_lit, Nat.zero_add]; exact h.cell _ h4
/-- A program whose last instruction isn't end is not valid. -/
theorem not_valid (i q m e : Int) (code : List In4) (x : In4) (hx : x.op ≠ 16) : decide ((ckA i q m e (code ++ [x])).2.2 = 0) = false := by
  refine decide_eq_false fun h => ?_
  have hv := Vd.of h
  have hl := hv.la
  have : (code ++ [x])[(code ++ [x]).length - 1]? = some x := by
    rw [List.length_append, List.getElem?_append_right (by simp)]
    simp
  rw [opA_at this] at hl
  exact hx hl
def xsL (n : Nat) : List In4 := [⟨9, 0, 0, 0⟩, ⟨15, 0, 0, n⟩, ⟨17, 0, 0, 0⟩, ⟨8, 0, 0, 1⟩, ⟨8, 0, 0, 0⟩]
theorem xsL_ne (n : Nat) {k : Nat} {x : In4} (h : (xsL n)[k]? = some x) : x.op ≠ 16 := by
  have hm := List.mem_of_getElem? h
  simp only [xsL, List.mem_cons, List.not_mem_nil, or_false] at hm
  rcases hm with rfl | rfl | rfl | rfl | rfl <;> simp
def seeT (j : Nat) : List Nat := match j with
  | 1 => [0]
  | 4 => [3]
  | 5 => [2, 3, 4]
  | 7 => [6]
  | 8 => [2, 3, 4, 5, 6, 7]
  | 9 => [0, 1, 2, 3, 4, 5, 6, 7, 8]
  | 11 => [0, 1, 2, 3, 4, 5, 6, 7, 8, 9, 10]
  | _ => []
def psT (g1 : Nat) (i q m e : Int) (A : Option Addr) (c : Nat) (code : List In4) (x : In4) (B : Nat) (j : Nat) (v : Value) (w : World) : Prop := match j with
  | 0 => v = .pointer (some ⟨g1, 0, none⟩)
  | 1 => v = .agg #[.int .i64 i, .int .i64 q, .int .i64 m, .int .i64 e]
  | 2 => ∃ g, v = .slice (some ⟨g, 0, none⟩) 0 0 ∧ w.ownsRow B 42 4 v 0 []
  | 3 => v = .pointer (some ⟨g1, 4, none⟩)
  | 4 => v = .slice A code.length c
  | 5 => OwC w B v code
  | 6 => v = .agg #[.int .i64 x.op, .int .i64 x.k, .int .i64 x.n, .int .i64 x.t]
  | 7 => ∃ g, v = .slice (some ⟨g, 0, none⟩) 1 1 ∧ ∀ j u, (xW x)[j]? = some u → w.cell? ((⟨g, 0, none⟩ : Addr).add j) = some u
  | 10 => ∃ g, v = .pointer (some ⟨g, 0, none⟩) ∧ B ≤ g ∧ Bx w g 26 [.int .i64 0, .int .i64 0, .int .i64 0, .int .i64 0, .slice none 0 0]
  | _ => False
def psT2 (g1 : Nat) (i q m e : Int) (code : List In4) (x : In4) (B : Nat) (j : Nat) (v : Value) (w : World) : Prop := match j with
  | 0 => v = .pointer (some ⟨g1, 0, none⟩)
  | 1 => v = .agg #[.int .i64 i, .int .i64 q, .int .i64 m, .int .i64 e]
  | 8 => ∃ g c', v = .slice (some ⟨g, 0, none⟩) (code.length + 1) c' ∧ w.ownsRow B 42 4 v (code.length + 1) (ins (code ++ [x]))
  | 9 => ∃ g c', v = .agg #[.int .i64 i, .int .i64 q, .int .i64 m, .int .i64 e, .slice (some ⟨g, 0, none⟩) (code.length + 1) c'] ∧ w.ownsRow B 42 4 (.slice (some ⟨g, 0, none⟩) (code.length + 1) c') (code.length + 1) (ins (code ++ [x]))
  | 10 => ∃ g, v = .pointer (some ⟨g, 0, none⟩) ∧ B ≤ g ∧ Bx w g 26 [.int .i64 0, .int .i64 0, .int .i64 0, .int .i64 0, .slice none 0 0]
  | _ => True

set_option maxHeartbeats 6400000 in
set_option maxRecDepth 100000 in
theorem law7_rejects (i q m e : Int) (A : Option Addr) (code : List In4) (n c : Nat) (hn : code.length = n ∧ n ≤ maxLen) (Ai : Option Addr) (ni ci : Nat) (inp : List Bool) (A1 A2 A3 : Option Addr) (m1 m2 m3 c1 c2 c3 : Nat) (y1 y2 y3 : List Bool) (w : World)
    (hr : RdC w A code) (hz : n ≤ c ∧ (A = none → c = 0)) (he : Ev w) (hi : Im w Ai ni ci inp) (h1 : Im w A1 m1 c1 y1) (h2 : Im w A2 m2 c2 y2) (h3 : Im w A3 m3 c3 y3)
    (b0 : ni ≤ 140737488351232) (b1 : m1 ≤ 140737488351232) (b2 : m2 ≤ 140737488351232) (b3 : m3 ≤ 140737488351232) :
    Calls Tryz.prog 4 #[pgV i q m e A n c, .slice Ai ni ci, .agg #[.slice A1 m1 c1, .slice A2 m2 c2, .slice A3 m3 c3]] w fun r w' => r = .returned (.bool true) ∧ Nx w w' := by
  have hl := hn.2
  have CV := Lib.hid (fun w' (h : Nx w w') => valid_any i q m e A code n c hn.1 hn.2 w' (hr.nx h) (he.nx h))
  have AL := Lib.hid (fun w' (h : Nx w w') => alive7_any w' (he.nx h))
  have HV := Lib.hid he
  have HZV := Lib.hid (fun h : (ckA i q m e code).2.2 = 0 => Vd.of h)
  obtain ⟨B, hB⟩ : ∃ B, decide ((ckA i q m e code).2.2 = 0) = B := ⟨_, rfl⟩
  rw [hB] at CV
  have HB := Lib.hid hB
  have HL := Lib.hid hn.1
  have HR := Lib.hid hr
  have HC := Lib.hid hz.2
  have HI := Lib.hid hi
  have H1 := Lib.hid h1
  have H2 := Lib.hid h2
  have H3 := Lib.hid h3
  clear hB hn hr hz he hi h1 h2 h3
  unfold maxLen at hl
  have N0 := Lib.hid (show Nx w ((w.alloc (.cells #[.int .i64 i, .int .i64 q, .int .i64 m, .int .i64 e, .slice A n c] 26)).alloc (.cells #[.slice A1 m1 c1, .slice A2 m2 c2, .slice A3 m3 c3] 29)) from (Nx.one _ _).alloc _)
  have X1 := Lib.hid ((bx_new w 26 (pgC i q m e A n c)).nx (Nx.one _ (.cells #[.slice A1 m1 c1, .slice A2 m2 c2, .slice A3 m3 c3] 29)))
  have X2 := Lib.hid (bx_new (w.alloc (.cells #[.int .i64 i, .int .i64 q, .int .i64 m, .int .i64 e, .slice A n c] 26)) 29 [.slice A1 m1 c1, .slice A2 m2 c2, .slice A3 m3 c3])
  rw [show (w.alloc (.cells #[.int .i64 i, .int .i64 q, .int .i64 m, .int .i64 e, .slice A n c] 26)).heap.size = w.heap.size + 1 by simp] at X2
  unfold pgV at CV ⊢
  go_enter Tryz.func4, Tryz.ntmps4
  have x0 := X1.out.cell 0 rfl
  have x1 := X1.out.cell 1 rfl
  have x2 := X1.out.cell 2 rfl
  have x3 := X1.out.cell 3 rfl
  have x4 := X1.out.cell 4 rfl
  have z0 := X2.out.cell 0 rfl
  have z1 := X2.out.cell 1 rfl
  have z2 := X2.out.cell 2 rfl
  by_cases hb : 1000 < n
  · have hbi : (1000 : Int) < (n : Int) := by omega
    go_wp2_with fail
    refine (AL.out _ N0.out).mono ?_
    rintro r w2 ⟨rfl, k2⟩
    go_wp2_with fail
    go_ret
    exact ⟨rfl, N0.out.trans k2⟩
  have hbi : ¬ (1000 : Int) < (n : Int) := by omega
  by_cases d0 : (ni : Int) = i
  rotate_left
  · have t1 : ((ni : Int) == i) = false := by simpa using d0
    have t2 : ((ni : Int) != i) = true := by simpa using d0
    clear d0
    go_wp2_with fail
    refine (AL.out _ N0.out).mono ?_
    rintro r w2 ⟨rfl, k2⟩
    go_wp2_with fail
    go_ret
    exact ⟨rfl, N0.out.trans k2⟩
  subst d0
  by_cases d1 : (m1 : Int) = q
  rotate_left
  · have t1 : ((m1 : Int) == q) = false := by simpa using d1
    have t2 : ((m1 : Int) != q) = true := by simpa using d1
    clear d1
    go_wp2_with fail
    refine (AL.out _ N0.out).mono ?_
    rintro r w2 ⟨rfl, k2⟩
    go_wp2_with fail
    go_ret
    exact ⟨rfl, N0.out.trans k2⟩
  subst d1
  by_cases d2 : (m2 : Int) = m
  rotate_left
  · have t1 : ((m2 : Int) == m) = false := by simpa using d2
    have t2 : ((m2 : Int) != m) = true := by simpa using d2
    clear d2
    go_wp2_with fail
    refine (AL.out _ N0.out).mono ?_
    rintro r w2 ⟨rfl, k2⟩
    go_wp2_with fail
    go_ret
    exact ⟨rfl, N0.out.trans k2⟩
  subst d2
  by_cases d3 : (m3 : Int) = e
  rotate_left
  · have t1 : ((m3 : Int) == e) = false := by simpa using d3
    have t2 : ((m3 : Int) != e) = true := by simpa using d3
    clear d3
    go_wp2_with fail
    refine (AL.out _ N0.out).mono ?_
    rintro r w2 ⟨rfl, k2⟩
    go_wp2_with fail
    go_ret
    exact ⟨rfl, N0.out.trans k2⟩
  subst d3
  have RN := Lib.hid (fun w' (k : Nx w w') => vmRun_any code inp y1 y2 y3 (by rw [HL.out]; omega) A Ai A1 A2 A3 c ni ci m1 c1 m2 c2 m3 c3 b0 b1 b2 b3 w' (HR.out.nx k) HC.out (HI.out.nx k) (H1.out.nx k) (H2.out.nx k) (H3.out.nx k))
  rw [HL.out] at RN
  have HFL := Lib.hid (show B = true → (run code inp (mc0 y1 y2 y3) 0).1.flt = 0 from fun h => by
    have hv := HZV.out (of_decide_eq_true (HB.out.trans h))
    exact (sn_run hv (by rw [HI.out.2.1]) _ _ 0 (sn_start hv (x1 := y1) (x2 := y2) (x3 := y3) (by rw [H1.out.2.1]) (by rw [H2.out.2.1]) (by rw [H3.out.2.1])) (Nat.le_refl _)).1)
  go_wp2_with fail
  clear x0 x1 x2 x3 x4 z0 z1 z2 b0 b1 b2 b3
  rw [show (w.alloc (.cells (pgC ni m1 m2 m3 A n c).toArray 26)) = w.alloc (.cells #[.int .i64 ni, .int .i64 m1, .int .i64 m2, .int .i64 m3, .slice A n c] 26) from rfl] at X1
  rw [show ((w.alloc (.cells #[.int .i64 ni, .int .i64 m1, .int .i64 m2, .int .i64 m3, .slice A n c] 26)).alloc (.cells [Value.slice A1 m1 c1, .slice A2 m2 c2, .slice A3 m3 c3].toArray 29)) = (w.alloc (.cells #[.int .i64 ni, .int .i64 m1, .int .i64 m2, .int .i64 m3, .slice A n c] 26)).alloc (.cells #[.slice A1 m1 c1, .slice A2 m2 c2, .slice A3 m3 c3] 29) from rfl] at X2
  generalize (w.alloc (.cells #[.int .i64 ni, .int .i64 m1, .int .i64 m2, .int .i64 m3, .slice A n c] 26)).alloc (.cells #[.slice A1 m1 c1, .slice A2 m2 c2, .slice A3 m3 c3] 29) = W at *
  generalize w.heap.size + 1 = g2 at *
  generalize w.heap.size = g1 at *
  have S1 := Lib.hid (show ∀ w', Nx W w' → w'.cell? ⟨g1, 0, none⟩ = some (.int .i64 ni) ∧ w'.cell? ⟨g1, 1, none⟩ = some (.int .i64 m1) ∧ w'.cell? ⟨g1, 2, none⟩ = some (.int .i64 m2) ∧ w'.cell? ⟨g1, 3, none⟩ = some (.int .i64 m3) ∧ w'.cell? ⟨g1, 4, none⟩ = some (.slice A n c) from fun w' h =>
    ⟨(X1.out.nx h).cell 0 rfl, (X1.out.nx h).cell 1 rfl, (X1.out.nx h).cell 2 rfl, (X1.out.nx h).cell 3 rfl, (X1.out.nx h).cell 4 rfl⟩)
  have S2 := Lib.hid (show ∀ w', Nx W w' → w'.cell? ⟨g2, 0, none⟩ = some (.slice A1 m1 c1) ∧ w'.cell? ⟨g2, 1, none⟩ = some (.slice A2 m2 c2) ∧ w'.cell? ⟨g2, 2, none⟩ = some (.slice A3 m3 c3) from fun w' h =>
    ⟨(X2.out.nx h).cell 0 rfl, (X2.out.nx h).cell 1 rfl, (X2.out.nx h).cell 2 rfl⟩)
  clear X1 X2
  refine (RN.out W N0.out).mono ?_
  intro e w2 hp
  obtain ⟨B1, B2, B3, f1, f2, f3, rfl, k2⟩ := runPost_cells7 hp
  have M2 := Lib.hid k2
  clear k2 hp RN
  obtain ⟨r, hr⟩ : ∃ r, run code inp (mc0 y1 y2 y3) 0 = r := ⟨_, rfl⟩
  rw [hr] at HFL ⊢
  clear hr
  generalize r.1.q.length = l1 at *
  generalize r.1.m.length = l2 at *
  generalize r.1.e.length = l3 at *
  generalize r.2 = rn at *
  generalize r.1.pc = rp at *
  generalize r.1.flt = fl at *
  have M3 := Lib.hid (show Nx W (w2.alloc (.cells #[.slice B1 l1 f1, .slice B2 l2 f2, .slice B3 l3 f3, .int .i64 rn, .int .i64 rp, .int .i64 fl] 35)) from M2.out.alloc _)
  have XY := bx_new w2 35 [.slice B1 l1 f1, .slice B2 l2 f2, .slice B3 l3 f3, .int .i64 rn, .int .i64 rp, .int .i64 fl]
  have y5 := XY.cell 5 rfl
  clear XY
  obtain ⟨x0, x1, x2, x3, x4⟩ := S1.out _ M3.out
  have key : ∀ (w3 : World), Nx W w3 → True := fun _ _ => trivial
  clear key
  by_cases hf : fl = 0
  rotate_left
  · have t1 : (fl == 0) = false := by simpa using hf
    have t2 : (fl != 0) = true := by simpa using hf
    have hBf : B = false := by
      cases hb : B with
      | false => rfl
      | true => exact absurd (HFL.out hb) hf
    subst hBf
    clear hf
    go_wp2_with fail
    refine (CV.out _ (N0.out.trans M3.out)).mono ?_
    rintro r w3 ⟨rfl, k3⟩
    have M4 := Lib.hid (M3.out.trans k3)
    clear x0 x1 x2 x3 x4 y5 k3
    obtain ⟨x0, x1, x2, x3, x4⟩ := S1.out _ M4.out
    go_wp2_with fail
    refine (CV.out _ (N0.out.trans M4.out)).mono ?_
    rintro r w4 ⟨rfl, k4⟩
    have M5 := Lib.hid (N0.out.trans (M4.out.trans k4))
    clear x0 x1 x2 x3 x4 k4
    go_wp2_with fail
    refine (AL.out _ M5.out).mono ?_
    rintro r w5 ⟨rfl, k5⟩
    go_wp2_with fail
    go_ret
    exact ⟨rfl, M5.out.trans k5⟩
  subst hf
  go_wp2_with fail
  refine (CV.out _ (N0.out.trans M3.out)).mono ?_
  rintro r w3 ⟨rfl, k3⟩
  have M4 := Lib.hid (M3.out.trans k3)
  clear x0 x1 x2 x3 x4 y5 k3 M3
  cases B with
  | false =>
    go_wp2_with fail
    refine (AL.out _ (N0.out.trans M4.out)).mono ?_
    rintro r w5 ⟨rfl, k5⟩
    go_wp2_with fail
    go_ret
    exact ⟨rfl, (N0.out.trans M4.out).trans k5⟩
  | true =>
    obtain ⟨x0, x1, x2, x3, x4⟩ := S1.out _ M4.out
    go_wp2_with fail
    have XL := Lib.hid (bx_new w3 42 (ins (xsL n)))
    have M5 := Lib.hid (M4.out.trans (Nx.one w3 (.cells #[.int .i64 9, .int .i64 0, .int .i64 0, .int .i64 0, .int .i64 15, .int .i64 0, .int .i64 0, .int .i64 n, .int .i64 17, .int .i64 0, .int .i64 0, .int .i64 0, .int .i64 8, .int .i64 0, .int .i64 0, .int .i64 1, .int .i64 8, .int .i64 0, .int .i64 0, .int .i64 0] 42)))
    rw [show w3.alloc (.cells (ins (xsL n)).toArray 42) = w3.alloc (.cells #[.int .i64 9, .int .i64 0, .int .i64 0, .int .i64 0, .int .i64 15, .int .i64 0, .int .i64 0, .int .i64 n, .int .i64 17, .int .i64 0, .int .i64 0, .int .i64 0, .int .i64 8, .int .i64 0, .int .i64 0, .int .i64 1, .int .i64 8, .int .i64 0, .int .i64 0, .int .i64 0] 42) from rfl] at XL
    clear x0 x1 x2 x3 x4
    generalize w3.alloc (.cells #[.int .i64 9, .int .i64 0, .int .i64 0, .int .i64 0, .int .i64 15, .int .i64 0, .int .i64 0, .int .i64 n, .int .i64 17, .int .i64 0, .int .i64 0, .int .i64 0, .int .i64 8, .int .i64 0, .int .i64 0, .int .i64 1, .int .i64 8, .int .i64 0, .int .i64 0, .int .i64 0] 42) = W5 at *
    generalize w3.heap.size = gr at *
    clear M4 HFL HZV
    go_loopw [77] (fun i wr => ∃ k : Nat, k ≤ 5 ∧ i = .int .i64 k ∧ Nx W5 wr) (fun i _ => 5 - (intOf i).toNat)
    case atStart => exact ⟨0, by omega, rfl, Nx.refl _⟩
    case round =>
      obtain ⟨k, hk, rfl, hnx⟩ := hrel
      have HN := Lib.hid hnx
      clear hnx
      by_cases hlt : k < 5
      · have hki : (k : Int) < 5 := by omega
        have hk4 : k * 4 + 3 < 20 := by omega
        obtain ⟨x, hx⟩ : ∃ x, (xsL n)[k]? = some x := ⟨_, List.getElem?_eq_getElem (by simp [xsL]; exact hlt)⟩
        have HXN := Lib.hid (xsL_ne n hx)
        obtain ⟨q0, q1, q2, q3⟩ := ins_get (xsL n) k x hx
        have f0 := (XL.out.nx HN.out).cell _ q0
        have f1 := (XL.out.nx HN.out).cell _ q1
        have f2 := (XL.out.nx HN.out).cell _ q2
        have f3 := (XL.out.nx HN.out).cell _ q3
        clear q0 q1 q2 q3
        obtain ⟨op, kk, nn, t⟩ := x
        simp only at f0 f1 f2 f3 HXN
        have MB := Lib.hid (M5.out.trans (HN.out.alloc (.cells #[.int .i64 op, .int .i64 kk, .int .i64 nn, .int .i64 t] 42)))
        have XB := Lib.hid (bx_new wr 42 [.int .i64 op, .int .i64 kk, .int .i64 nn, .int .i64 t])
        clear hx
        go_wp2_with fail
        clear f0 f1 f2 f3
        rw [show wr.alloc (.cells [Value.int .i64 op, .int .i64 kk, .int .i64 nn, .int .i64 t].toArray 42) = wr.alloc (.cells #[.int .i64 op, .int .i64 kk, .int .i64 nn, .int .i64 t] 42) from rfl] at XB
        have HNB := Lib.hid (show Nx W5 (wr.alloc (.cells #[.int .i64 op, .int .i64 kk, .int .i64 nn, .int .i64 t] 42)) from HN.out.alloc _)
        generalize hWB : wr.alloc (.cells #[.int .i64 op, .int .i64 kk, .int .i64 nn, .int .i64 t] 42) = WB at *
        clear hWB
        generalize wr.heap.size = gx at *
        have MBs := Lib.hid (Nat.le_refl WB.heap.size)
        obtain ⟨i0, hi0, hz0, hz1, hz2⟩ := info_parts infoIns
        refine wp_region_tlast (by kernel_rfl) (by kernel_rfl) (by kernel_rfl) seeT (by kernel_rfl) 11 (by decide) (by kernel_rfl) 8 (by decide) (by decide) (psT g1 ni m1 m2 m3 A c code ⟨op, kk, nn, t⟩ WB.heap.size) (psT2 g1 ni m1 m2 m3 code ⟨op, kk, nn, t⟩ WB.heap.size) (fun w1 => Nx WB w1) ?_ ?_ ?_ ?_ ?_
        · intro j v u u' k hp
          unfold psT at hp ⊢
          split at hp
          case h_3 => obtain ⟨g, e, ho⟩ := hp; exact ⟨g, e, own_of ho fun g _ hg => k.block g hg⟩
          case h_6 => exact OwC.nx hp k
          case h_8 => obtain ⟨g, e, hc⟩ := hp; exact ⟨g, e, fun j u hj => k.cell (hc j u hj)⟩
          case h_9 => obtain ⟨g, e, hg, hb⟩ := hp; exact ⟨g, e, hg, hb.nx k⟩
          all_goals exact hp
        · intro i o hi8 hi11 hsee ho a1 w1 K hF hR hE hK
          have f3 : a1.tmps[3]?.getD undef = .pointer (some ⟨g1, 0, none⟩) := tmp_of (hF.2.2 3 (by kernel_rfl))
          have f9 : a1.tmps[9]?.getD undef = .pointer (some ⟨gx, 0, none⟩) := tmp_of (hF.2.2 9 (by kernel_rfl))
          obtain ⟨x0, x1, x2, x3, x4⟩ := S1.out w1 (MB.out.trans hR)
          have y0 := (XB.out.nx hR).cell 0 rfl
          have y1 := (XB.out.nx hR).cell 1 rfl
          have y2 := (XB.out.nx hR).cell 2 rfl
          have y3 := (XB.out.nx hR).cell 3 rfl
          have hsz := hR.size
          rcases i with _ | _ | _ | _ | _ | _ | _ | _ | _ | _ | _ | _ | i
          · obtain rfl := Option.some.inj ho
            have hK0 := Lib.hid hK
            clear hK hE hF
            unfold Oper.wp
            go_simp
            exact hK0.out _ _ (Nx.refl _) rfl (fun h => by cases h)
          · obtain rfl := Option.some.inj ho
            have e0 : a1.tmps[81]?.getD undef = .pointer (some ⟨g1, 0, none⟩) := tmp_of (show a1.tmps.getD 81 undef = _ from hE ⟨0, .data⟩ (by simp) rfl)
            have hK0 := Lib.hid hK
            clear hK hE hF
            unfold Oper.wp
            go_simp
            exact hK0.out _ _ (Nx.refl _) rfl (fun h => by cases h)
          · obtain rfl := Option.some.inj ho
            have hK0 := Lib.hid hK
            clear hK hE hF
            unfold Oper.wp
            go_simp
            exact hK0.out _ _ (Nx.one _ _) ⟨_, rfl, own_lowC (World.ownsRow_lit (base := w1.heap.size) (e := 42) (size := 4) w1 #[] 0 (Nat.le_refl _) (by unfold maxLen; omega) rfl) hsz⟩ (fun h => by cases h)
          · obtain rfl := Option.some.inj ho
            have hK0 := Lib.hid hK
            clear hK hE hF
            unfold Oper.wp
            go_simp
            exact hK0.out _ _ (Nx.refl _) rfl (fun h => by cases h)
          · obtain rfl := Option.some.inj ho
            have e3 : a1.tmps[84]?.getD undef = .pointer (some ⟨g1, 4, none⟩) := tmp_of (show a1.tmps.getD 84 undef = _ from hE ⟨3, .data⟩ (by simp) rfl)
            have hK0 := Lib.hid hK
            clear hK hE hF
            unfold Oper.wp
            go_simp
            exact hK0.out _ _ (Nx.refl _) (show Value.slice A n c = .slice A code.length c by rw [HL.out]) (fun h => by cases h)
          · obtain rfl := Option.some.inj ho
            obtain ⟨g, e2, ho2⟩ : ∃ g, a1.tmps.getD 83 undef = .slice (some ⟨g, 0, none⟩) 0 0 ∧ w1.ownsRow WB.heap.size 42 4 (a1.tmps.getD 83 undef) 0 [] := hE ⟨2, .data⟩ (by simp) rfl
            rw [e2] at ho2
            have e4 : a1.tmps.getD 85 undef = .slice A code.length c := hE ⟨4, .data⟩ (by simp) rfl
            exact wp_freshC (.tmp 83) (.tmp 85) rfl WB.heap.size g e2 ho2 A c code e4 ((HR.out.nx (N0.out.trans MB.out)).nx hR) HC.out (by rw [HL.out]; omega) hsz (fun v w2 hn hw => hK v w2 hn hw (fun h => by cases h))
          · obtain rfl := Option.some.inj ho
            have hK0 := Lib.hid hK
            clear hK hE hF
            unfold Oper.wp
            go_simp
            exact hK0.out _ _ (Nx.refl _) rfl (fun h => by cases h)
          · obtain rfl := Option.some.inj ho
            have e6 : a1.tmps[87]?.getD undef = .agg #[.int .i64 op, .int .i64 kk, .int .i64 nn, .int .i64 t] := tmp_of (show a1.tmps.getD 87 undef = _ from hE ⟨6, .data⟩ (by simp) rfl)
            have hK0 := Lib.hid hK
            clear hK hE hF
            unfold Oper.wp
            go_simp
            exact hK0.out _ _ (Nx.one _ _) ⟨_, rfl, fun j u hj => by rw [Addr.add_lit, Nat.zero_add]; exact (bx_new w1 42 (xW ⟨op, kk, nn, t⟩)).cell j hj⟩ (fun h => by cases h)
          · exact absurd rfl hi8
          · exact absurd (by decide) hsee
          · obtain rfl := Option.some.inj ho
            have hK0 := Lib.hid hK
            clear hK hE hF
            unfold Oper.wp
            go_simp
            exact hK0.out _ _ (Nx.one _ _) ⟨_, rfl, hsz, bx_new w1 26 [.int .i64 0, .int .i64 0, .int .i64 0, .int .i64 0, .slice none 0 0]⟩ (fun h => by cases h)
          · exact absurd rfl hi11
          · cases ho
        · intro o ho a1 w1 K hF hR hE hK
          obtain rfl := Option.some.inj ho
          obtain ⟨v5, hv5⟩ : ∃ v5, a1.tmps.getD 86 undef = v5 := ⟨_, rfl⟩
          have o5 : OwC w1 WB.heap.size v5 code := hv5 ▸ (show OwC w1 WB.heap.size (a1.tmps.getD 86 undef) code from hE ⟨5, .data⟩ (by simp) rfl)
          obtain ⟨g, e7, hc7⟩ : ∃ g, a1.tmps.getD 88 undef = .slice (some ⟨g, 0, none⟩) 1 1 ∧ ∀ j u, (xW ⟨op, kk, nn, t⟩)[j]? = some u → w1.cell? ((⟨g, 0, none⟩ : Addr).add j) = some u := hE ⟨7, .data⟩ (by simp) rfl
          refine wp_append_lies w1 (.tmp 86) (.tmp 88) 24 rfl WB.heap.size 42 i0 (.agg #[.int .i64 0, .int .i64 0, .int .i64 0, .int .i64 0]) 4 32 Tryz.underlying24 hi0 hz0 hz1 hz2 rfl (by decide) v5 code.length (ins code) hv5 o5 ⟨g, 0, none⟩ 1 1 (xW ⟨op, kk, nn, t⟩) e7 rfl hc7 (fun u hu => by simp [xW] at hu; rcases hu with rfl | rfl | rfl | rfl <;> rfl) (by decide) (by rw [HL.out]; unfold maxLen; omega) (by rw [HL.out]; omega) hR.size _ rfl ?_
          intro g2 c2 w2 ho2 hg2 _ _
          have hn2 : Nx WB w2 := grown_nx hR hg2 o5 (Nat.le_refl _)
          refine hK _ w2 hn2 ⟨g2, c2, rfl, by rw [ins_app8]; exact ho2⟩ (fun j v' hp => ?_) (fun h => by cases h)
          unfold psT at hp
          unfold psT2
          split at hp
          case h_1 => exact hp
          case h_2 => exact hp
          case h_9 =>
            obtain ⟨g', e', hg', hb'⟩ := hp
            refine ⟨g', e', hg', (hg2.block g' hb'.lt (fun e => ?_)).trans hb'⟩
            rcases o5.2 with ⟨rfl, _⟩ | ⟨g5, cap5, cur5, rfl, _, hcur, _⟩
            · cases e
            · obtain rfl : g' = g5 := Option.some.inj e
              have hbad := hcur.symm.trans hb'
              simp at hbad
          case h_10 => exact hp.elim
          all_goals trivial
        · intro i o hi8 hi11 hsee ho a1 w1 K hF hJ hE hK
          have f3 : a1.tmps[3]?.getD undef = .pointer (some ⟨g1, 0, none⟩) := tmp_of (hF.2.2 3 (by kernel_rfl))
          obtain ⟨x0, x1, x2, x3, x4⟩ := S1.out w1 (MB.out.trans hJ)
          rcases i with _ | _ | _ | _ | _ | _ | _ | _ | _ | _ | _ | _ | i
          · obtain rfl := Option.some.inj ho
            have hK0 := Lib.hid hK
            have hJ0 := Lib.hid hJ
            clear hK hE hF hJ
            unfold Oper.wp
            go_simp
            exact hK0.out _ _ hJ0.out rfl (fun _ _ _ h => h) (fun h => by cases h)
          · obtain rfl := Option.some.inj ho
            have e0 : a1.tmps[81]?.getD undef = .pointer (some ⟨g1, 0, none⟩) := tmp_of (show a1.tmps.getD 81 undef = _ from hE ⟨0, .data⟩ (by simp) rfl)
            have hK0 := Lib.hid hK
            have hJ0 := Lib.hid hJ
            clear hK hE hF hJ
            unfold Oper.wp
            go_simp
            exact hK0.out _ _ hJ0.out rfl (fun _ _ _ h => h) (fun h => by cases h)
          · exact absurd (by decide) hsee
          · exact absurd (by decide) hsee
          · exact absurd (by decide) hsee
          · exact absurd (by decide) hsee
          · exact absurd (by decide) hsee
          · exact absurd (by decide) hsee
          · exact absurd rfl hi8
          · obtain rfl := Option.some.inj ho
            have e1 : a1.tmps[82]?.getD undef = .agg #[.int .i64 ni, .int .i64 m1, .int .i64 m2, .int .i64 m3] := tmp_of (show a1.tmps.getD 82 undef = _ from hE ⟨1, .data⟩ (by simp) rfl)
            obtain ⟨v8, hv8⟩ : ∃ v8, a1.tmps.getD 89 undef = v8 := ⟨_, rfl⟩
            obtain ⟨g8, c8, rfl, o8⟩ : ∃ g c', v8 = .slice (some ⟨g, 0, none⟩) (code.length + 1) c' ∧ w1.ownsRow WB.heap.size 42 4 v8 (code.length + 1) (ins (code ++ [⟨op, kk, nn, t⟩])) := hv8 ▸ (show ∃ g c', a1.tmps.getD 89 undef = .slice (some ⟨g, 0, none⟩) (code.length + 1) c' ∧ w1.ownsRow WB.heap.size 42 4 (a1.tmps.getD 89 undef) (code.length + 1) (ins (code ++ [⟨op, kk, nn, t⟩])) from hE ⟨8, .data⟩ (by simp) rfl)
            have e8 := tmp_of hv8
            have hO8 := Lib.hid o8
            have hK0 := Lib.hid hK
            have hJ0 := Lib.hid hJ
            clear hK hE hF hJ hv8 o8
            unfold Oper.wp
            go_simp
            exact hK0.out _ _ hJ0.out ⟨g8, c8, rfl, hO8.out⟩ (fun _ _ _ h => h) (fun h => by cases h)
          · obtain rfl := Option.some.inj ho
            have hsz := hJ.size
            have hszB := Lib.hid (Nat.le_trans MBs.out hsz)
            have hK0 := Lib.hid hK
            have hJ0 := Lib.hid hJ
            clear hK hE hF hJ
            unfold Oper.wp
            go_simp
            exact hK0.out _ _ (hJ0.out.alloc _) ⟨_, rfl, hszB.out, bx_new w1 26 [.int .i64 0, .int .i64 0, .int .i64 0, .int .i64 0, .slice none 0 0]⟩ (fun j v' hj hp => by
              unfold psT2 at hp ⊢
              split at hp
              case h_3 => obtain ⟨g, c', e, ho'⟩ := hp; exact ⟨g, c', e, own_of ho' fun g _ hg => (Nx.one _ _).block g hg⟩
              case h_4 => obtain ⟨g, c', e, ho'⟩ := hp; exact ⟨g, c', e, own_of ho' fun g _ hg => (Nx.one _ _).block g hg⟩
              case h_5 => exact absurd rfl hj
              all_goals exact hp) (fun h => by cases h)
          · exact absurd rfl hi11
          · cases ho
        · intro o ho a1 w1 K hF hJ hp hK
          obtain rfl := Option.some.inj ho
          have v9 := hp 9 (by decide) (by decide)
          obtain ⟨g8, c8, e9, o8⟩ := v9
          have v10 := hp 10 (by decide) (by decide)
          obtain ⟨g10, e10, hg10, hb10⟩ := v10
          have e9' : a1.tmps[90]?.getD undef = .agg #[.int .i64 ni, .int .i64 m1, .int .i64 m2, .int .i64 m3, .slice (some ⟨g8, 0, none⟩) (code.length + 1) c8] := tmp_of (show a1.tmps.getD 90 undef = _ from e9)
          have e10' : a1.tmps[10]?.getD undef = .pointer (some ⟨g10, 0, none⟩) := tmp_of (show a1.tmps.getD 10 undef = _ from e10)
          have hne : g8 ≠ g10 := fun e => by
            rcases o8.2 with ⟨h, _⟩ | ⟨g5, cap5, cur5, h, _, hcur, _⟩
            · cases h
            · simp only [Value.slice.injEq, Option.some.injEq, Addr.mk.injEq, and_true, true_and] at h
              obtain ⟨rfl, _⟩ := h
              rw [e] at hcur
              have hbad := hcur.symm.trans hb10
              simp at hbad
          have HBX := Lib.hid (((((hb10.put 0 (.int .i64 ni)).put 1 (.int .i64 m1)).put 2 (.int .i64 m2)).put 3 (.int .i64 m3)).put 4 (.slice (some ⟨g8, 0, none⟩) (code.length + 1) c8))
          have HNX := Lib.hid (((((hJ.set hg10 (i := 0) (o := none) (.int .i64 ni)).set hg10 (i := 1) (o := none) (.int .i64 m1)).set hg10 (i := 2) (o := none) (.int .i64 m2)).set hg10 (i := 3) (o := none) (.int .i64 m3)).set hg10 (i := 4) (o := none) (.slice (some ⟨g8, 0, none⟩) (code.length + 1) c8))
          have HOW := Lib.hid (show OwC (((((w1.setCell ⟨g10, 0, none⟩ (.int .i64 ni)).setCell ⟨g10, 1, none⟩ (.int .i64 m1)).setCell ⟨g10, 2, none⟩ (.int .i64 m2)).setCell ⟨g10, 3, none⟩ (.int .i64 m3)).setCell ⟨g10, 4, none⟩ (.slice (some ⟨g8, 0, none⟩) (code.length + 1) c8)) WB.heap.size (.slice (some ⟨g8, 0, none⟩) (code.length + 1) c8) (code ++ [⟨op, kk, nn, t⟩]) by
            unfold OwC
            rw [List.length_append]
            refine own_of o8 fun g hg _ => ?_
            obtain rfl : g8 = g := by simpa [Value.ownBlock] using hg
            rw [Deep.blk_setCell_other _ _ _ _ hne, Deep.blk_setCell_other _ _ _ _ hne, Deep.blk_setCell_other _ _ _ _ hne, Deep.blk_setCell_other _ _ _ _ hne, Deep.blk_setCell_other _ _ _ _ hne])
          have q0 := hb10.cell 0 rfl
          have q1 := hb10.cell 1 rfl
          have q2 := hb10.cell 2 rfl
          have q3 := hb10.cell 3 rfl
          have q4 := hb10.cell 4 rfl
          have r0 := hb10.frozen 0
          have r1 := hb10.frozen 1
          have r2 := hb10.frozen 2
          have r3 := hb10.frozen 3
          have r4 := hb10.frozen 4
          have hK0 := Lib.hid hK
          have hF0 := Lib.hid hF
          clear hK hF hp hJ o8 hb10 hne
          unfold Oper.wp
          go_simp
          refine hK0.out _ _ ?_
          generalize ((((w1.setCell ⟨g10, 0, none⟩ (.int .i64 ni)).setCell ⟨g10, 1, none⟩ (.int .i64 m1)).setCell ⟨g10, 2, none⟩ (.int .i64 m2)).setCell ⟨g10, 3, none⟩ (.int .i64 m3)).setCell ⟨g10, 4, none⟩ (.slice (some ⟨g8, 0, none⟩) (code.length + 1) c8) = W8 at *
          clear q0 q1 q2 q3 q4 r0 r1 r2 r3 r4 e9' e10' e9 hK0
          rw [hF0.out.eq (by kernel_rfl)]
          generalize view _ a1 = vv at e10 ⊢
          simp only [putN, Act.put, List.size_toArray, List.length_cons, List.length_nil, Nat.reduceAdd, List.getElem?_toArray, List.getElem?_cons_zero, List.getElem?_cons_succ, Option.bind_some, List.setIfInBounds_toArray, List.set_cons_zero, List.set_cons_succ]
          rw [e10]
          have hbx := HBX.out
          simp only [List.set_cons_zero, List.set_cons_succ] at hbx
          have q0 := hbx.cell 0 rfl
          have q1 := hbx.cell 1 rfl
          have q2 := hbx.cell 2 rfl
          have q3 := hbx.cell 3 rfl
          have q4 := hbx.cell 4 rfl
          have M8 := Lib.hid (show Nx W5 W8 from HNB.out.trans HNX.out)
          have N8 := Lib.hid (show Nx w W8 from N0.out.trans (MB.out.trans HNX.out))
          obtain ⟨A8, c9, e8, hr8, hx1, hx2⟩ := OwC.rd HOW.out
          simp only [Value.slice.injEq] at e8
          obtain ⟨rfl, hx3, rfl⟩ := e8
          clear hx1 hx2 hx3
          have VA := Lib.hid (valid_any ni m1 m2 m3 (some ⟨g8, 0, none⟩) (code ++ [⟨op, kk, nn, t⟩]) (code.length + 1) c8 (by simp) (by rw [HL.out]; unfold maxLen; omega) W8 hr8 (HV.out.nx N8.out))
          rw [not_valid ni m1 m2 m3 code ⟨op, kk, nn, t⟩ HXN.out] at VA
          unfold pgV at VA
          clear hbx hr8 e10
          go_wp2_with fail
          refine VA.out.mono ?_
          rintro r w9 ⟨rfl, q9⟩
          have M9 := Lib.hid (M8.out.trans q9)
          clear q9 q0 q1 q2 q3 q4
          go_wp2_with fail
          go_roundw
          case rel => exact ⟨k + 1, by omega, by go_num, M9.out⟩
          case measure => simp only [intOf]; omega
      · obtain rfl : k = 5 := by omega
        have hki : ¬ ((5 : Nat) : Int) < 5 := by omega
        have N9 := Lib.hid (N0.out.trans (M5.out.trans HN.out))
        go_wp2_with fail
        refine (AL.out _ N9.out).mono ?_
        rintro r w9 ⟨rfl, q9⟩
        go_wp2_with fail
        go_ret
        exact ⟨rfl, N9.out.trans q9⟩
end Go.Proofs.YtdpccnpaajhliaaGreatDoor
