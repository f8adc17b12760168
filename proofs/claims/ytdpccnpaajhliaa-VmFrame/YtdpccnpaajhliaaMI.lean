/- What the methods of rise and fall do. What the machine does to write a bit. What the methods of st, stn, set and rst do. What the methods of jmpc and end do. What the machine's table of methods is, and what slices.Clone makes of a program and of an image. Conditions: as each theorem states them. -/
import Derived.Test.YtdpccnpaajhliaaMH
import Derived.Test.YtdpccnpaajhliaaMD
import Derived.MapKept
import Derived.Lib.SliceRun
namespace Go.Proofs.Ytdpccnpaajhliaa
section
open Go.RowKit

set_option maxHeartbeats 1600000 in
set_option maxRecDepth 100000 in
theorem vmSample_no (base b sb : Nat) (o : Option Nat) (ge : Nat) (nt : Int) (code : List In4) (inp : List Bool) (s : Mc) (op k n t : Int) (w : World) (h : PM w base b sb o ge nt code inp s) (hE : bitE inp s ⟨op, k, n, t⟩ ≠ 0) :
    Calls Try.prog 52 #[.pointer (some ⟨b, 0, none⟩), .agg #[.int .i64 op, .int .i64 k, .int .i64 n, .int .i64 t]] w fun e w' => e = .returned (.tuple #[.bool false, .bool false, .int .i64 (bitE inp s ⟨op, k, n, t⟩)]) ∧ Nx w w' := by
  have P := Lib.hid h
  have CR := Lib.hid (fun (w' : World) (k' : Nx w w') => vmRead_any base b sb o ge nt code inp s k n w' (h.nx k'))
  have NX := Lib.hid (Nx.one w (.cells #[.int .i64 op, .int .i64 k, .int .i64 n, .int .i64 t] 28))
  have HX := Lib.hid (bx_new w 28 [.int .i64 op, .int .i64 k, .int .i64 n, .int .i64 t])
  have x1 := HX.out.cell 1 rfl
  have x2 := HX.out.cell 2 rfl
  obtain ⟨V, hV⟩ : ∃ V, V = rdSV inp s.q s.m k n := ⟨_, rfl⟩
  have hE2 : rdSE inp s.q s.m k n ≠ 0 := hE
  unfold bitE
  rw [← hV] at CR
  obtain ⟨E, hE'⟩ : ∃ E, E = rdSE inp s.q s.m k n := ⟨_, rfl⟩
  have e0 : E ≠ 0 := by rw [hE']; exact hE2
  simp only
  rw [← hE'] at CR ⊢
  clear hE2 hE' hV h hE
  go_enter Try.func52, Try.ntmps52
  go_wp2_with fail
  refine (CR.out _ NX.out).mono ?_
  rintro e w2 ⟨rfl, hn⟩
  have N2 := Lib.hid (NX.out.trans hn)
  clear hn x1 x2 NX CR P HX
  go_wp2
  refine bodyPost_ret (by simp [results, Try.results52, go_sem]; try rfl) rfl ?_
  exact ⟨rfl, N2.out⟩

set_option maxHeartbeats 1600000 in
set_option maxRecDepth 100000 in
theorem vmSample_range (base b sb : Nat) (o : Option Nat) (ge : Nat) (nt : Int) (code : List In4) (inp : List Bool) (s : Mc) (op k n t : Int) (w : World) (h : PM w base b sb o ge nt code inp s) (hE : bitE inp s ⟨op, k, n, t⟩ = 0) (ht : t < 0 ∨ (s.e.length : Int) ≤ t) :
    Calls Try.prog 52 #[.pointer (some ⟨b, 0, none⟩), .agg #[.int .i64 op, .int .i64 k, .int .i64 n, .int .i64 t]] w fun e w' => e = .returned (.tuple #[.bool false, .bool false, .int .i64 3]) ∧ Nx w w' := by
  have P := Lib.hid h
  have CR := Lib.hid (fun (w' : World) (k' : Nx w w') => vmRead_any base b sb o ge nt code inp s k n w' (h.nx k'))
  have NX := Lib.hid (Nx.one w (.cells #[.int .i64 op, .int .i64 k, .int .i64 n, .int .i64 t] 28))
  have HX := Lib.hid (bx_new w 28 [.int .i64 op, .int .i64 k, .int .i64 n, .int .i64 t])
  have x1 := HX.out.cell 1 rfl
  have x2 := HX.out.cell 2 rfl
  obtain ⟨V, hV⟩ : ∃ V, V = rdSV inp s.q s.m k n := ⟨_, rfl⟩
  have hE2 : rdSE inp s.q s.m k n = 0 := hE
  rw [← hV, hE2] at CR
  obtain ⟨Ai, gq, gm, ci, cq, cm, ce, hC, hI, _⟩ := h.ims
  have HCC := Lib.hid (fun w' kk => (hC w' kk).2.2.2)
  have HI := Lib.hid (fun w' kk => (hI w' kk).2.2.2)
  have hr : rdV s.e t = false ∧ rdE s.e t = 3 := by unfold rdV rdE; rw [if_neg (by omega), if_neg (by omega)]; exact ⟨rfl, rfl⟩
  have GC := Lib.hid (fun (w' : World) (kk : Nx w w') => (im_get' t w' (HI.out w' kk)))
  simp only [hr.1, hr.2] at GC
  clear hE2 hV h hE hC hI HI ht hr
  go_enter Try.func52, Try.ntmps52
  go_wp2_with fail
  refine (CR.out _ NX.out).mono ?_
  rintro e w2 ⟨rfl, hn⟩
  have N2 := Lib.hid (NX.out.trans hn)
  have y2 := (HX.out.nx hn).cell 3 rfl
  have c4 := HCC.out _ N2.out
  clear hn x1 x2 NX CR P HX HCC
  go_wp2_with fail
  go_quiet (first | (go_at_call 59; refine Calls.quiet_of_same (GC.out _ (N2.out.trans (by repeat (first | exact Nx.refl _ | assumption | refine Nx.drewN ?_ _ | refine Nx.drew ?_ | refine Nx.alloc ?_ _ | refine Nx.set ?_ (by first | exact Nat.le_refl _ | (simp; done) | (simp; omega)) _))))))
  go_wp2
  refine bodyPost_ret (by simp [results, Try.results52, go_sem]; try rfl) rfl ?_
  exact ⟨rfl, N2.out.trans (by repeat (first | exact Nx.refl _ | assumption | refine Nx.drewN ?_ _ | refine Nx.drew ?_ | refine Nx.alloc ?_ _ | refine Nx.set ?_ (by first | exact Nat.le_refl _ | (simp; done) | (simp; omega)) _))⟩

set_option maxHeartbeats 1600000 in
set_option maxRecDepth 100000 in
theorem vmSample_ok (base b sb : Nat) (o : Option Nat) (ge : Nat) (nt : Int) (code : List In4) (inp : List Bool) (s : Mc) (op k n t : Int) (p : Nat) (w : World) (h : PM w base b sb o ge nt code inp s) (hE : bitE inp s ⟨op, k, n, t⟩ = 0) (hp : t = (p : Int)) (hpl : p < s.e.length) (hle : s.e.length ≤ 1000000) :
    Calls Try.prog 52 #[.pointer (some ⟨b, 0, none⟩), .agg #[.int .i64 op, .int .i64 k, .int .i64 n, .int .i64 t]] w fun e w' => e = .returned (.tuple #[.bool (rdSV inp s.q s.m k n), .bool (s.e.getD p false), .int .i64 0]) ∧ PM w' base b sb o ge nt code inp { s with e := s.e.set p (rdSV inp s.q s.m k n) } ∧ Mp b sb o ge w w' := by
  subst hp
  have P := Lib.hid h
  have CR := Lib.hid (fun (w' : World) (k' : Nx w w') => vmRead_any base b sb o ge nt code inp s k n w' (h.nx k'))
  have NX := Lib.hid (Nx.one w (.cells #[.int .i64 op, .int .i64 k, .int .i64 n, .int .i64 (p : Int)] 28))
  have HX := Lib.hid (bx_new w 28 [.int .i64 op, .int .i64 k, .int .i64 n, .int .i64 (p : Int)])
  have x1 := HX.out.cell 1 rfl
  have x2 := HX.out.cell 2 rfl
  obtain ⟨V, hV⟩ : ∃ V, V = rdSV inp s.q s.m k n := ⟨_, rfl⟩
  have hE2 : rdSE inp s.q s.m k n = 0 := hE
  rw [← hV] at CR ⊢
  rw [hE2] at CR
  obtain ⟨Ai, gq, gm, ci, cq, cm, ce, hC, hI, _⟩ := h.ims
  have HCC := Lib.hid (fun w' kk => (hC w' kk).2.2.2)
  have HI := Lib.hid (fun w' kk => (hI w' kk).2.2.2)
  obtain ⟨was, hwas⟩ : ∃ was, was = s.e.getD p false := ⟨_, rfl⟩
  have hr : rdV s.e (p : Int) = was ∧ rdE s.e (p : Int) = 0 := by unfold rdV rdE; rw [if_pos (by omega), if_pos (by omega), hwas]; exact ⟨by simp, rfl⟩
  have GC := Lib.hid (fun (w' : World) (kk : Nx w w') => (im_get' (p : Int) w' (HI.out w' kk)))
  simp only [hr.1, hr.2] at GC
  rw [← hwas]
  clear hE2 hV hE hC hI HI hr hwas
  have hpL : (p : Int) < (s.e.length : Int) := by omega
  have hp6 : p ≤ 1000000 := by omega
  have HE := Lib.hid (fun (w' : World) (k' : Nx w w') => (show (∃ u, w'.cell? ⟨ge, p, none⟩ = some u) ∧ w'.frozen? ⟨ge, p, none⟩ = false from by
    obtain ⟨_, _, _, _, _, _, _, _, _, ho⟩ := (h.nx k').ims
    exact ⟨⟨_, ho.cell (List.getElem?_eq_getElem hpl)⟩, ho.frozen p⟩))
  clear h
  obtain ⟨Le, hLe⟩ : ∃ Le, Le = s.e.length := ⟨_, rfl⟩
  rw [← hLe] at HCC hpL GC hle
  clear hLe hpl
  go_enter Try.func52, Try.ntmps52
  go_wp2_with fail
  refine (CR.out _ NX.out).mono ?_
  rintro e w2 ⟨rfl, hn⟩
  have N2 := Lib.hid (NX.out.trans hn)
  have y2 := (HX.out.nx hn).cell 3 rfl
  have c4 := HCC.out _ N2.out
  have PW := Lib.hid (fun N => (((P.out.nx (N2.out.drewN N))).nx (Nx.refl _).drew).setE p V)
  have MW := Lib.hid (fun N => (Mp.of_nx ((N2.out.drewN N).drew) b sb o ge).trans (Mp.of_e ((w2.drewN N).drew) b sb o ge p (.bool V)) (.inl rfl))
  have H4 := Lib.hid (fun N => (HE.out ((w2.drewN N).drew) ((N2.out.drewN N).drew)))
  obtain ⟨⟨u, hu⟩, hf⟩ := HE.out w2 N2.out
  clear hn x1 x2 NX CR P HX HCC HE H4
  go_wp2_with fail
  go_quiet (first | (go_at_call 59; refine Calls.quiet_of_same (GC.out _ (N2.out.trans (by repeat (first | exact Nx.refl _ | assumption | refine Nx.drewN ?_ _ | refine Nx.drew ?_ | refine Nx.alloc ?_ _ | refine Nx.set ?_ (by first | exact Nat.le_refl _ | (simp; done) | (simp; omega)) _))))))
  go_wp2_with fail
  go_region
  go_wp2
  refine bodyPost_ret (by simp [results, Try.results52, go_sem]; try rfl) rfl ?_
  exact ⟨rfl, PW.out _, MW.out _⟩

set_option maxHeartbeats 1600000 in
set_option maxRecDepth 100000 in
theorem vmEdge6_no (b : Nat) (op k n t : Int) (E : Int) (hE0 : E ≠ 0) (w : World) (hS : ∀ w', Nx w w' → Calls Try.prog 52 #[.pointer (some ⟨b, 0, none⟩), .agg #[.int .i64 op, .int .i64 k, .int .i64 n, .int .i64 t]] w' fun e w2 => e = .returned (.tuple #[.bool false, .bool false, .int .i64 E]) ∧ Nx w' w2) :
    Calls Try.prog 37 #[.pointer (some ⟨b, 0, none⟩), .agg #[.int .i64 op, .int .i64 k, .int .i64 n, .int .i64 t]] w (MdNo E w) := by
  unfold MdNo
  have CS := Lib.hid hS
  have NX := Lib.hid (Nx.one w (.cells #[.int .i64 op, .int .i64 k, .int .i64 n, .int .i64 t] 28))
  have HX := bx_new w 28 [.int .i64 op, .int .i64 k, .int .i64 n, .int .i64 t]
  have x0 := HX.cell 0 rfl
  have x1 := HX.cell 1 rfl
  have x2 := HX.cell 2 rfl
  have x3 := HX.cell 3 rfl
  clear hS HX
  go_enter Try.func37, Try.ntmps37
  go_wp2_with fail
  refine (CS.out _ NX.out).mono ?_
  rintro e w2 ⟨rfl, hn⟩
  have N2 := Lib.hid (NX.out.trans hn)
  clear hn x0 x1 x2 x3 NX CS
  go_wp2_with fail
  refine (vmSetAcc_no b _ E hE0 _).mono ?_
  rintro e w3 ⟨rfl, rfl⟩
  go_wp2
  go_ret
  exact ⟨rfl, N2.out⟩

set_option maxHeartbeats 1600000 in
set_option maxRecDepth 100000 in
theorem vmEdge6_ok (base b sb : Nat) (o : Option Nat) (ge : Nat) (nt : Int) (code : List In4) (inp : List Bool) (s : Mc) (op k n t : Int) (p : Nat) (w : World) (h : PM w base b sb o ge nt code inp s) (hE : bitE inp s ⟨op, k, n, t⟩ = 0) (hp : t = (p : Int)) (hpl : p < s.e.length) (hle : s.e.length ≤ 1000000) :
    Calls Try.prog 37 #[.pointer (some ⟨b, 0, none⟩), .agg #[.int .i64 op, .int .i64 k, .int .i64 n, .int .i64 t]] w (MdOk base b sb o ge nt code inp { s with acc := edA 6 (bitV inp s ⟨op, k, n, t⟩) (s.e.getD p false), e := s.e.set p (bitV inp s ⟨op, k, n, t⟩) } w) := by
  unfold MdOk bitV
  have CS := Lib.hid (fun (w' : World) (k' : Nx w w') => vmSample_ok base b sb o ge nt code inp s op k n t p w' (h.nx k') hE hp hpl hle)
  simp only
  generalize rdSV inp s.q s.m k n = V at *
  generalize s.e.getD p false = was at *
  have NX := Lib.hid (Nx.one w (.cells #[.int .i64 op, .int .i64 k, .int .i64 n, .int .i64 t] 28))
  have HX := bx_new w 28 [.int .i64 op, .int .i64 k, .int .i64 n, .int .i64 t]
  have x0 := HX.cell 0 rfl
  have x1 := HX.cell 1 rfl
  have x2 := HX.cell 2 rfl
  have x3 := HX.cell 3 rfl
  clear h hE hp hpl hle HX
  go_enter Try.func37, Try.ntmps37
  go_wp2_with fail
  refine (CS.out _ NX.out).mono ?_
  rintro e w2 ⟨rfl, hp, hm⟩
  have M2 := Lib.hid ((Mp.of_nx NX.out b sb o ge).trans hm (.inl rfl))
  have SA := Lib.hid (fun (u : Bool) (hu : u = edA 6 V was) => (vmSetAcc_pm base b sb o ge nt code inp _ u w2 hp).mono (fun e w3 (hh : e = .returned (.int .i64 0) ∧ PM w3 base b sb o ge nt code inp { s with e := s.e.set p V, acc := u } ∧ Mp b sb o ge w2 w3) => (show e = .returned (.int .i64 0) ∧ PM w3 base b sb o ge nt code inp { s with acc := edA 6 V was, e := s.e.set p V } ∧ Mp b sb o ge w2 w3 from by rw [← hu]; exact hh)))
  clear hp hm x0 x1 x2 x3 NX CS
  cases V
  all_goals
    cases was
    all_goals
      go_wp2_with fail
      refine (SA.out _ (by decide)).mono ?_
      rintro e w3 ⟨rfl, hp, hm⟩
      have P3 := Lib.hid hp
      have M3 := Lib.hid (M2.out.trans hm (.inl rfl))
      clear hp hm SA
      go_wp2
      go_ret
      exact ⟨rfl, o, P3.out, .inl rfl, M3.out⟩

set_option maxHeartbeats 1600000 in
set_option maxRecDepth 100000 in
theorem vmEdge7_no (b : Nat) (op k n t : Int) (E : Int) (hE0 : E ≠ 0) (w : World) (hS : ∀ w', Nx w w' → Calls Try.prog 52 #[.pointer (some ⟨b, 0, none⟩), .agg #[.int .i64 op, .int .i64 k, .int .i64 n, .int .i64 t]] w' fun e w2 => e = .returned (.tuple #[.bool false, .bool false, .int .i64 E]) ∧ Nx w' w2) :
    Calls Try.prog 38 #[.pointer (some ⟨b, 0, none⟩), .agg #[.int .i64 op, .int .i64 k, .int .i64 n, .int .i64 t]] w (MdNo E w) := by
  unfold MdNo
  have CS := Lib.hid hS
  have NX := Lib.hid (Nx.one w (.cells #[.int .i64 op, .int .i64 k, .int .i64 n, .int .i64 t] 28))
  have HX := bx_new w 28 [.int .i64 op, .int .i64 k, .int .i64 n, .int .i64 t]
  have x0 := HX.cell 0 rfl
  have x1 := HX.cell 1 rfl
  have x2 := HX.cell 2 rfl
  have x3 := HX.cell 3 rfl
  clear hS HX
  go_enter Try.func38, Try.ntmps38
  go_wp2_with fail
  refine (CS.out _ NX.out).mono ?_
  rintro e w2 ⟨rfl, hn⟩
  have N2 := Lib.hid (NX.out.trans hn)
  clear hn x0 x1 x2 x3 NX CS
  go_wp2_with fail
  refine (vmSetAcc_no b _ E hE0 _).mono ?_
  rintro e w3 ⟨rfl, rfl⟩
  go_wp2
  go_ret
  exact ⟨rfl, N2.out⟩

set_option maxHeartbeats 1600000 in
set_option maxRecDepth 100000 in
theorem vmEdge7_ok (base b sb : Nat) (o : Option Nat) (ge : Nat) (nt : Int) (code : List In4) (inp : List Bool) (s : Mc) (op k n t : Int) (p : Nat) (w : World) (h : PM w base b sb o ge nt code inp s) (hE : bitE inp s ⟨op, k, n, t⟩ = 0) (hp : t = (p : Int)) (hpl : p < s.e.length) (hle : s.e.length ≤ 1000000) :
    Calls Try.prog 38 #[.pointer (some ⟨b, 0, none⟩), .agg #[.int .i64 op, .int .i64 k, .int .i64 n, .int .i64 t]] w (MdOk base b sb o ge nt code inp { s with acc := edA 7 (bitV inp s ⟨op, k, n, t⟩) (s.e.getD p false), e := s.e.set p (bitV inp s ⟨op, k, n, t⟩) } w) := by
  unfold MdOk bitV
  have CS := Lib.hid (fun (w' : World) (k' : Nx w w') => vmSample_ok base b sb o ge nt code inp s op k n t p w' (h.nx k') hE hp hpl hle)
  simp only
  generalize rdSV inp s.q s.m k n = V at *
  generalize s.e.getD p false = was at *
  have NX := Lib.hid (Nx.one w (.cells #[.int .i64 op, .int .i64 k, .int .i64 n, .int .i64 t] 28))
  have HX := bx_new w 28 [.int .i64 op, .int .i64 k, .int .i64 n, .int .i64 t]
  have x0 := HX.cell 0 rfl
  have x1 := HX.cell 1 rfl
  have x2 := HX.cell 2 rfl
  have x3 := HX.cell 3 rfl
  clear h hE hp hpl hle HX
  go_enter Try.func38, Try.ntmps38
  go_wp2_with fail
  refine (CS.out _ NX.out).mono ?_
  rintro e w2 ⟨rfl, hp, hm⟩
  have M2 := Lib.hid ((Mp.of_nx NX.out b sb o ge).trans hm (.inl rfl))
  have SA := Lib.hid (fun (u : Bool) (hu : u = edA 7 V was) => (vmSetAcc_pm base b sb o ge nt code inp _ u w2 hp).mono (fun e w3 (hh : e = .returned (.int .i64 0) ∧ PM w3 base b sb o ge nt code inp { s with e := s.e.set p V, acc := u } ∧ Mp b sb o ge w2 w3) => (show e = .returned (.int .i64 0) ∧ PM w3 base b sb o ge nt code inp { s with acc := edA 7 V was, e := s.e.set p V } ∧ Mp b sb o ge w2 w3 from by rw [← hu]; exact hh)))
  clear hp hm x0 x1 x2 x3 NX CS
  cases V
  all_goals
    cases was
    all_goals
      go_wp2_with fail
      refine (SA.out _ (by decide)).mono ?_
      rintro e w3 ⟨rfl, hp, hm⟩
      have P3 := Lib.hid hp
      have M3 := Lib.hid (M2.out.trans hm (.inl rfl))
      clear hp hm SA
      go_wp2
      go_ret
      exact ⟨rfl, o, P3.out, .inl rfl, M3.out⟩
end
section
open Go.RowKit

theorem vmWr_of {m1 m2 : Nat} {x1 x2 : List Bool} {w w2 : World} {e : Ending} (h : ∃ r, e = .returned (.tuple #[r, .int .i64 0]) ∧ OwS w2 w.heap.size r m1 m2 0 x1 x2 []) (hn : Nx w w2) :
    ∃ g1 g2 g3 c1 c2 c3, e = .returned (.tuple #[.agg #[.slice (some ⟨g1, 0, none⟩) m1 c1, .slice (some ⟨g2, 0, none⟩) m2 c2, .slice (some ⟨g3, 0, none⟩) 0 c3], .int .i64 0]) ∧ OwB w2 w.heap.size g1 c1 x1 ∧ OwB w2 w.heap.size g2 c2 x2 ∧ Nx w w2 := by
  obtain ⟨r, rfl, g1, g2, g3, c1, c2, c3, rfl, _, ⟨h1, _⟩, ⟨h2, _⟩, _⟩ := h
  exact ⟨g1, g2, g3, c1, c2, c3, rfl, h1, h2, hn⟩

set_option maxHeartbeats 6400000 in
set_option maxRecDepth 100000 in
theorem vmWrite_no (base b sb : Nat) (o : Option Nat) (ge : Nat) (nt : Int) (code : List In4) (inp : List Bool) (s : Mc) (k n : Int) (v en : Bool) (h1000 : s.q.length ≤ 1000000 ∧ s.m.length ≤ 1000000) (w : World) (h : PM w base b sb o ge nt code inp s) (hE : wrE s.q s.m k n ≠ 0) :
    Calls Try.prog 55 #[.pointer (some ⟨b, 0, none⟩), .agg #[.int .i64 k, .int .i64 n], .bool v, .bool en] w (MdNo (wrE s.q s.m k n) w) := by
  unfold MdNo
  have hbl := h.lt
  have P := Lib.hid h
  obtain ⟨Ai, gq, gm, ci, cq, cm, ce, hC, hI, _⟩ := h.ims
  have HWR := Lib.hid (fun (w' : World) (k' : Nx w w') => (write_any (some ⟨gq, 0, none⟩) (some ⟨gm, 0, none⟩) none s.q.length s.m.length 0 cq cm 0 s.q s.m [] k n v h1000.1 h1000.2 (by decide) w' (hI w' k').2.1 (hI w' k').2.2.1 ⟨fun i x hx => by simp at hx, rfl, fun _ => rfl⟩).mono (fun e w2 (hh : WrP _ _ _ _ _ _ _ _ _ w' e w2) => (⟨hh.1 hE, hh.2.2⟩ : e = .returned (.tuple #[.agg #[.slice none 0 0, .slice none 0 0, .slice none 0 0], .int .i64 (wrE s.q s.m k n)]) ∧ Nx w' w2)))
  have HCC := Lib.hid (fun w' kk => (show w'.cell? ⟨b, 2, none⟩ = _ ∧ w'.cell? ⟨b, 3, none⟩ = _ from ⟨(hC w' kk).2.1, (hC w' kk).2.2.1⟩))
  have NX := Lib.hid (Nx.one w (.cells #[.int .i64 k, .int .i64 n] 26))
  have HX := Lib.hid (bx_new w 26 [.int .i64 k, .int .i64 n])
  obtain ⟨E, hE'⟩ : ∃ E, E = wrE s.q s.m k n := ⟨_, rfl⟩
  have e0 : E ≠ 0 := by rw [hE']; exact hE
  rw [← hE'] at HWR ⊢
  clear h hC hI h1000 hE
  clear hE'
  go_enter Try.func55, Try.ntmps55
  go_wp2_with fail
  generalize hW : w.alloc (.cells #[.int .i64 k, .int .i64 n] 26) = W at *
  clear hW
  generalize w.heap.size = g at *
  obtain ⟨Lq, hLq⟩ : ∃ Lq, Lq = s.q.length := ⟨_, rfl⟩
  obtain ⟨Lm, hLm⟩ : ∃ Lm, Lm = s.m.length := ⟨_, rfl⟩
  have HLq := Lib.hid hLq
  have HLm := Lib.hid hLm
  rw [← hLq, ← hLm] at HWR HCC
  clear hLq hLm
  have HS := Lib.hid (show ∀ w', Nx W w' → w'.cell? ⟨b, 2, none⟩ = some (.slice (some ⟨gq, 0, none⟩) Lq cq) ∧ w'.cell? ⟨b, 3, none⟩ = some (.slice (some ⟨gm, 0, none⟩) Lm cm) ∧ w'.cell? ⟨g, 0, none⟩ = some (.int .i64 k) ∧ w'.cell? ⟨g, 1, none⟩ = some (.int .i64 n) from
    fun w' h => ⟨(HCC.out w' (NX.out.trans h)).1, (HCC.out w' (NX.out.trans h)).2, (HX.out.nx h).cell 0 rfl, (HX.out.nx h).cell 1 rfl⟩)
  obtain ⟨g2, g3, g5, g6⟩ := HS.out W (Nx.refl _)
  have hgW : g < W.heap.size := HX.out.lt
  have hbW : b < W.heap.size := (P.out.nx NX.out).lt
  go_cut [10] (fun c wx => c = .int .i64 E ∧ Nx W wx)
  case first =>
    go_region_held3 (fun w' => w'.cell? ⟨b, 2, none⟩ = some (.slice (some ⟨gq, 0, none⟩) Lq cq) ∧ w'.cell? ⟨b, 3, none⟩ = some (.slice (some ⟨gm, 0, none⟩) Lm cm) ∧ w'.cell? ⟨g, 0, none⟩ = some (.int .i64 k) ∧ w'.cell? ⟨g, 1, none⟩ = some (.int .i64 n)) (first | go_keep | exact HS.out _ (Nx.refl _) | exact HS.out _ (Nx.refl _).drew | exact HS.out _ N2.out | exact HS.out _ (by repeat (first | exact Nx.refl _ | assumption | refine Nx.drewN ?_ _ | refine Nx.drew ?_ | refine Nx.alloc ?_ _ | refine Nx.set ?_ (by first | exact Nat.le_refl _ | (simp; done) | (simp; omega)) _))) ((first | (go_at_call 60; (with_reducible refine (HWR.out _ (NX.out.trans (by repeat (first | exact Nx.refl _ | assumption | refine Nx.drewN ?_ _ | refine Nx.drew ?_ | refine Nx.alloc ?_ _ | refine Nx.set ?_ (by first | exact Nat.le_refl _ | (simp; done) | (simp; omega)) _)))).mono ?_); rintro e w2 ⟨rfl, hn2⟩; have N2 := Lib.hid (show Nx W w2 from Nx.trans (by repeat (first | exact Nx.refl _ | assumption | refine Nx.drewN ?_ _ | refine Nx.drew ?_ | refine Nx.alloc ?_ _ | refine Nx.set ?_ (by first | exact Nat.le_refl _ | (simp; done) | (simp; omega)) _)) hn2); (try (have Bn := (bx_new W.drew 31 [.slice none 0 0, .slice none 0 0, .slice none 0 0]).nx hn2; have n0 : w2.cell? ⟨W.heap.size, 0, none⟩ = some (.slice none 0 0) := Bn.cell 0 rfl; have n1 : w2.cell? ⟨W.heap.size, 1, none⟩ = some (.slice none 0 0) := Bn.cell 1 rfl; have n2 : w2.cell? ⟨W.heap.size, 2, none⟩ = some (.slice none 0 0) := Bn.cell 2 rfl; have m0 : w2.frozen? ⟨W.heap.size, 0, none⟩ = false := Bn.frozen 0; have m1 : w2.frozen? ⟨W.heap.size, 1, none⟩ = false := Bn.frozen 1; have m2 : w2.frozen? ⟨W.heap.size, 2, none⟩ = false := Bn.frozen 2; have BN := Lib.hid Bn; clear Bn)); clear hn2)))
    all_goals go_wp2_with fail
    all_goals go_meet
    all_goals exact ⟨rfl, (by repeat (first | assumption | exact N2.out | refine Nx.alloc ?_ _ | refine Nx.set ?_ (Nat.le_refl _) _ | refine Nx.drew ?_))⟩
  case rest =>
    obtain ⟨rfl, hn⟩ := hcut
    have N3 := Lib.hid hn
    clear hn g2 g3 g5 g6 HS HX HWR P HCC
    go_wp2
    go_ret
    exact ⟨rfl, NX.out.trans N3.out⟩

set_option maxHeartbeats 6400000 in
set_option maxRecDepth 100000 in
theorem vmWrite_on (base b sb : Nat) (o : Option Nat) (ge : Nat) (nt : Int) (code : List In4) (inp : List Bool) (s : Mc) (k n : Int) (v : Bool) (h1000 : s.q.length ≤ 1000000 ∧ s.m.length ≤ 1000000) (w : World) (h : PM w base b sb o ge nt code inp s) (hE : wrE s.q s.m k n = 0) :
    Calls Try.prog 55 #[.pointer (some ⟨b, 0, none⟩), .agg #[.int .i64 k, .int .i64 n], .bool v, .bool true] w (MdOk base b sb o ge nt code inp { s with q := wrQ s.q k n v, m := wrM s.m k n v } w) := by
  unfold MdOk
  have hbl := h.lt
  have P := Lib.hid h
  obtain ⟨Ai, gq, gm, ci, cq, cm, ce, hC, hI, _⟩ := h.ims
  have HWR := Lib.hid (fun (w' : World) (k' : Nx w w') => (write_any (some ⟨gq, 0, none⟩) (some ⟨gm, 0, none⟩) none s.q.length s.m.length 0 cq cm 0 s.q s.m [] k n v h1000.1 h1000.2 (by decide) w' (hI w' k').2.1 (hI w' k').2.2.1 ⟨fun i x hx => by simp at hx, rfl, fun _ => rfl⟩).mono (fun e w2 (hh : WrP _ _ _ _ _ _ _ _ _ w' e w2) => vmWr_of (hh.2.1 hE) hh.2.2))
  have HCC := Lib.hid (fun w' kk => (show w'.cell? ⟨b, 2, none⟩ = _ ∧ w'.cell? ⟨b, 3, none⟩ = _ from ⟨(hC w' kk).2.1, (hC w' kk).2.2.1⟩))
  have NX := Lib.hid (Nx.one w (.cells #[.int .i64 k, .int .i64 n] 26))
  have HX := Lib.hid (bx_new w 26 [.int .i64 k, .int .i64 n])
  clear h hC hI h1000 hE
  go_enter Try.func55, Try.ntmps55
  go_wp2_with fail
  generalize hW : w.alloc (.cells #[.int .i64 k, .int .i64 n] 26) = W at *
  clear hW
  generalize w.heap.size = g at *
  obtain ⟨Lq, hLq⟩ : ∃ Lq, Lq = s.q.length := ⟨_, rfl⟩
  obtain ⟨Lm, hLm⟩ : ∃ Lm, Lm = s.m.length := ⟨_, rfl⟩
  have HLq := Lib.hid hLq
  have HLm := Lib.hid hLm
  rw [← hLq, ← hLm] at HWR HCC
  clear hLq hLm
  have HS := Lib.hid (show ∀ w', Nx W w' → w'.cell? ⟨b, 2, none⟩ = some (.slice (some ⟨gq, 0, none⟩) Lq cq) ∧ w'.cell? ⟨b, 3, none⟩ = some (.slice (some ⟨gm, 0, none⟩) Lm cm) ∧ w'.cell? ⟨g, 0, none⟩ = some (.int .i64 k) ∧ w'.cell? ⟨g, 1, none⟩ = some (.int .i64 n) from
    fun w' h => ⟨(HCC.out w' (NX.out.trans h)).1, (HCC.out w' (NX.out.trans h)).2, (HX.out.nx h).cell 0 rfl, (HX.out.nx h).cell 1 rfl⟩)
  obtain ⟨g2, g3, g5, g6⟩ := HS.out W (Nx.refl _)
  have hgW : g < W.heap.size := HX.out.lt
  have hbW : b < W.heap.size := (P.out.nx NX.out).lt
  have HB := Lib.hid (show base ≤ W.heap.size ∧ ge < W.heap.size ∧ ∀ j, o = some j → j < W.heap.size from ⟨by have := (P.out.nx NX.out).base_le.1; omega, (P.out.nx NX.out).own_lt.2.1, (P.out.nx NX.out).own_lt.2.2⟩)
  go_cut [9, 10] (fun a c wx => ∃ (g7 g1 g2 g3 c1 c2 c3 : Nat), a = .pointer (some ⟨g7, 0, none⟩) ∧ c = .int .i64 0 ∧ Bx wx g7 31 [.slice (some ⟨g1, 0, none⟩) Lq c1, .slice (some ⟨g2, 0, none⟩) Lm c2, .slice (some ⟨g3, 0, none⟩) 0 c3] ∧ (OwB wx W.heap.size g1 c1 (wrQ s.q k n v) ∧ OwB wx W.heap.size g2 c2 (wrM s.m k n v)) ∧ Nx W wx)
  case first =>
    go_region_held3 (fun w' => w'.cell? ⟨b, 2, none⟩ = some (.slice (some ⟨gq, 0, none⟩) Lq cq) ∧ w'.cell? ⟨b, 3, none⟩ = some (.slice (some ⟨gm, 0, none⟩) Lm cm) ∧ w'.cell? ⟨g, 0, none⟩ = some (.int .i64 k) ∧ w'.cell? ⟨g, 1, none⟩ = some (.int .i64 n)) (first | go_keep | exact HS.out _ (Nx.refl _) | exact HS.out _ (Nx.refl _).drew | exact HS.out _ N2.out | exact HS.out _ (by repeat (first | exact Nx.refl _ | assumption | refine Nx.drewN ?_ _ | refine Nx.drew ?_ | refine Nx.alloc ?_ _ | refine Nx.set ?_ (by first | exact Nat.le_refl _ | (simp; done) | (simp; omega)) _))) ((first | (go_at_call 60; (with_reducible refine (HWR.out _ (NX.out.trans (by repeat (first | exact Nx.refl _ | assumption | refine Nx.drewN ?_ _ | refine Nx.drew ?_ | refine Nx.alloc ?_ _ | refine Nx.set ?_ (by first | exact Nat.le_refl _ | (simp; done) | (simp; omega)) _)))).mono ?_); rintro e w2 ⟨q1, q2, q3, c1, c2, c3, rfl, i1, i2, hn2⟩; have N2 := Lib.hid (show Nx W w2 from Nx.trans (by repeat (first | exact Nx.refl _ | assumption | refine Nx.drewN ?_ _ | refine Nx.drew ?_ | refine Nx.alloc ?_ _ | refine Nx.set ?_ (by first | exact Nat.le_refl _ | (simp; done) | (simp; omega)) _)) hn2); have I1 := Lib.hid i1; have I2 := Lib.hid i2; (try (have Bn := (bx_new W.drew 31 [.slice none 0 0, .slice none 0 0, .slice none 0 0]).nx hn2; have n0 : w2.cell? ⟨W.heap.size, 0, none⟩ = some (.slice none 0 0) := Bn.cell 0 rfl; have n1 : w2.cell? ⟨W.heap.size, 1, none⟩ = some (.slice none 0 0) := Bn.cell 1 rfl; have n2 : w2.cell? ⟨W.heap.size, 2, none⟩ = some (.slice none 0 0) := Bn.cell 2 rfl; have m0 : w2.frozen? ⟨W.heap.size, 0, none⟩ = false := Bn.frozen 0; have m1 : w2.frozen? ⟨W.heap.size, 1, none⟩ = false := Bn.frozen 1; have m2 : w2.frozen? ⟨W.heap.size, 2, none⟩ = false := Bn.frozen 2; have BN := Lib.hid Bn; clear Bn)); clear hn2 i1 i2)))
    all_goals go_wp2_with fail
    all_goals go_meet
    all_goals first
      | exact ⟨w2.heap.size, q1, q2, q3, c1, c2, c3, rfl, rfl, bx_new w2 31 [.slice (some ⟨q1, 0, none⟩) Lq c1, .slice (some ⟨q2, 0, none⟩) Lm c2, .slice (some ⟨q3, 0, none⟩) 0 c3], ⟨(I1.out.low (Nat.le_refl _)).nx (Nx.one _ _), (I2.out.low (Nat.le_refl _)).nx (Nx.one _ _)⟩, N2.out.alloc _⟩
      | exact ⟨W.heap.size, q1, q2, q3, c1, c2, c3, rfl, rfl, ((BN.out.put 0 _).put 1 _).put 2 _, ⟨(((I1.out.far (by have := I1.out.base_le; simp at this; omega) _).far (by have := I1.out.base_le; simp at this; omega) _).far (by have := I1.out.base_le; simp at this; omega) _).low (by simp), (((I2.out.far (by have := I2.out.base_le; simp at this; omega) _).far (by have := I2.out.base_le; simp at this; omega) _).far (by have := I2.out.base_le; simp at this; omega) _).low (by simp)⟩, ((N2.out.set (Nat.le_refl _) _).set (Nat.le_refl _) _).set (Nat.le_refl _) _⟩
  case rest =>
    obtain ⟨g7, q1, q2, q3, c1, c2, c3, rfl, rfl, hbx, ⟨i1, i2⟩, hn⟩ := hcut
    have N3 := Lib.hid (NX.out.trans hn)
    have P3 := Lib.hid (P.out.nx N3.out)
    have hbW := HB.out.1
    have F3 := Lib.hid (fun N => ((P3.out.nx ((Nx.refl _).drewN N)).setQM ((wrQ_len' s.q k n v).trans (show s.q.length = Lq from (show Lq = s.q.length from HLq.out).symm)) ((wrM_len' s.m k n v).trans (show s.m.length = Lm from (show Lm = s.m.length from HLm.out).symm)) ((i1.low hbW).nx ((Nx.refl _).drewN N)) ((i2.low hbW).nx ((Nx.refl _).drewN N)) (by have := i1.base_le; have := HB.out.2.1; omega) (by have := i2.base_le; have := HB.out.2.1; omega) (fun e => by have := i1.base_le; have := HB.out.2.2 _ e; omega) (fun e => by have := i2.base_le; have := HB.out.2.2 _ e; omega)))
    have M3 := Lib.hid (fun N => (Mp.of_nx (N3.out.drewN N) b sb o ge).set 2 (.slice (some ⟨q1, 0, none⟩) Lq c1) |>.set 3 (.slice (some ⟨q2, 0, none⟩) Lm c2))
    have k0 := hbx.cell 0 rfl
    have k1 := hbx.cell 1 rfl
    obtain ⟨_, _, _, _, _, _, _, hC3, _⟩ := P3.out.ims
    have q2 := (hC3 _ (Nx.refl _)).2.1
    have q3 := (hC3 _ (Nx.refl _)).2.2.1
    have p2 := P3.out.frozen 2
    have p3 := P3.out.frozen 3
    clear hn g2 g3 g5 g6 HS HX HWR P HCC hbx i1 i2 hC3
    go_wp2_with fail
    go_region
    go_wp2
    go_ret
    exact ⟨rfl, o, F3.out 1, .inl rfl, M3.out 1⟩

set_option maxHeartbeats 6400000 in
set_option maxRecDepth 100000 in
theorem vmWrite_off (base b sb : Nat) (o : Option Nat) (ge : Nat) (nt : Int) (code : List In4) (inp : List Bool) (s : Mc) (k n : Int) (v : Bool) (h1000 : s.q.length ≤ 1000000 ∧ s.m.length ≤ 1000000) (w : World) (h : PM w base b sb o ge nt code inp s) (hE : wrE s.q s.m k n = 0) :
    Calls Try.prog 55 #[.pointer (some ⟨b, 0, none⟩), .agg #[.int .i64 k, .int .i64 n], .bool v, .bool false] w (MdOk base b sb o ge nt code inp s w) := by
  unfold MdOk
  have hbl := h.lt
  have P := Lib.hid h
  obtain ⟨Ai, gq, gm, ci, cq, cm, ce, hC, hI, _⟩ := h.ims
  have HWR := Lib.hid (fun (w' : World) (k' : Nx w w') => (write_any (some ⟨gq, 0, none⟩) (some ⟨gm, 0, none⟩) none s.q.length s.m.length 0 cq cm 0 s.q s.m [] k n v h1000.1 h1000.2 (by decide) w' (hI w' k').2.1 (hI w' k').2.2.1 ⟨fun i x hx => by simp at hx, rfl, fun _ => rfl⟩).mono (fun e w2 (hh : WrP _ _ _ _ _ _ _ _ _ w' e w2) => vmWr_of (hh.2.1 hE) hh.2.2))
  have HCC := Lib.hid (fun w' kk => (show w'.cell? ⟨b, 2, none⟩ = _ ∧ w'.cell? ⟨b, 3, none⟩ = _ from ⟨(hC w' kk).2.1, (hC w' kk).2.2.1⟩))
  have NX := Lib.hid (Nx.one w (.cells #[.int .i64 k, .int .i64 n] 26))
  have HX := Lib.hid (bx_new w 26 [.int .i64 k, .int .i64 n])
  clear h hC hI h1000 hE
  go_enter Try.func55, Try.ntmps55
  go_wp2_with fail
  generalize hW : w.alloc (.cells #[.int .i64 k, .int .i64 n] 26) = W at *
  clear hW
  generalize w.heap.size = g at *
  obtain ⟨Lq, hLq⟩ : ∃ Lq, Lq = s.q.length := ⟨_, rfl⟩
  obtain ⟨Lm, hLm⟩ : ∃ Lm, Lm = s.m.length := ⟨_, rfl⟩
  have HLq := Lib.hid hLq
  have HLm := Lib.hid hLm
  rw [← hLq, ← hLm] at HWR HCC
  clear hLq hLm
  have HS := Lib.hid (show ∀ w', Nx W w' → w'.cell? ⟨b, 2, none⟩ = some (.slice (some ⟨gq, 0, none⟩) Lq cq) ∧ w'.cell? ⟨b, 3, none⟩ = some (.slice (some ⟨gm, 0, none⟩) Lm cm) ∧ w'.cell? ⟨g, 0, none⟩ = some (.int .i64 k) ∧ w'.cell? ⟨g, 1, none⟩ = some (.int .i64 n) from
    fun w' h => ⟨(HCC.out w' (NX.out.trans h)).1, (HCC.out w' (NX.out.trans h)).2, (HX.out.nx h).cell 0 rfl, (HX.out.nx h).cell 1 rfl⟩)
  obtain ⟨g2, g3, g5, g6⟩ := HS.out W (Nx.refl _)
  have hgW : g < W.heap.size := HX.out.lt
  have hbW : b < W.heap.size := (P.out.nx NX.out).lt
  go_cut [9, 10] (fun a c wx => ∃ (g7 g1 g2 g3 c1 c2 c3 : Nat), a = .pointer (some ⟨g7, 0, none⟩) ∧ c = .int .i64 0 ∧ Bx wx g7 31 [.slice (some ⟨g1, 0, none⟩) Lq c1, .slice (some ⟨g2, 0, none⟩) Lm c2, .slice (some ⟨g3, 0, none⟩) 0 c3] ∧ (OwB wx W.heap.size g1 c1 (wrQ s.q k n v) ∧ OwB wx W.heap.size g2 c2 (wrM s.m k n v)) ∧ Nx W wx)
  case first =>
    go_region_held3 (fun w' => w'.cell? ⟨b, 2, none⟩ = some (.slice (some ⟨gq, 0, none⟩) Lq cq) ∧ w'.cell? ⟨b, 3, none⟩ = some (.slice (some ⟨gm, 0, none⟩) Lm cm) ∧ w'.cell? ⟨g, 0, none⟩ = some (.int .i64 k) ∧ w'.cell? ⟨g, 1, none⟩ = some (.int .i64 n)) (first | go_keep | exact HS.out _ (Nx.refl _) | exact HS.out _ (Nx.refl _).drew | exact HS.out _ N2.out | exact HS.out _ (by repeat (first | exact Nx.refl _ | assumption | refine Nx.drewN ?_ _ | refine Nx.drew ?_ | refine Nx.alloc ?_ _ | refine Nx.set ?_ (by first | exact Nat.le_refl _ | (simp; done) | (simp; omega)) _))) ((first | (go_at_call 60; (with_reducible refine (HWR.out _ (NX.out.trans (by repeat (first | exact Nx.refl _ | assumption | refine Nx.drewN ?_ _ | refine Nx.drew ?_ | refine Nx.alloc ?_ _ | refine Nx.set ?_ (by first | exact Nat.le_refl _ | (simp; done) | (simp; omega)) _)))).mono ?_); rintro e w2 ⟨q1, q2, q3, c1, c2, c3, rfl, i1, i2, hn2⟩; have N2 := Lib.hid (show Nx W w2 from Nx.trans (by repeat (first | exact Nx.refl _ | assumption | refine Nx.drewN ?_ _ | refine Nx.drew ?_ | refine Nx.alloc ?_ _ | refine Nx.set ?_ (by first | exact Nat.le_refl _ | (simp; done) | (simp; omega)) _)) hn2); have I1 := Lib.hid i1; have I2 := Lib.hid i2; (try (have Bn := (bx_new W.drew 31 [.slice none 0 0, .slice none 0 0, .slice none 0 0]).nx hn2; have n0 : w2.cell? ⟨W.heap.size, 0, none⟩ = some (.slice none 0 0) := Bn.cell 0 rfl; have n1 : w2.cell? ⟨W.heap.size, 1, none⟩ = some (.slice none 0 0) := Bn.cell 1 rfl; have n2 : w2.cell? ⟨W.heap.size, 2, none⟩ = some (.slice none 0 0) := Bn.cell 2 rfl; have m0 : w2.frozen? ⟨W.heap.size, 0, none⟩ = false := Bn.frozen 0; have m1 : w2.frozen? ⟨W.heap.size, 1, none⟩ = false := Bn.frozen 1; have m2 : w2.frozen? ⟨W.heap.size, 2, none⟩ = false := Bn.frozen 2; have BN := Lib.hid Bn; clear Bn)); clear hn2 i1 i2)))
    all_goals go_wp2_with fail
    all_goals go_meet
    all_goals first
      | exact ⟨w2.heap.size, q1, q2, q3, c1, c2, c3, rfl, rfl, bx_new w2 31 [.slice (some ⟨q1, 0, none⟩) Lq c1, .slice (some ⟨q2, 0, none⟩) Lm c2, .slice (some ⟨q3, 0, none⟩) 0 c3], ⟨(I1.out.low (Nat.le_refl _)).nx (Nx.one _ _), (I2.out.low (Nat.le_refl _)).nx (Nx.one _ _)⟩, N2.out.alloc _⟩
      | exact ⟨W.heap.size, q1, q2, q3, c1, c2, c3, rfl, rfl, ((BN.out.put 0 _).put 1 _).put 2 _, ⟨(((I1.out.far (by have := I1.out.base_le; simp at this; omega) _).far (by have := I1.out.base_le; simp at this; omega) _).far (by have := I1.out.base_le; simp at this; omega) _).low (by simp), (((I2.out.far (by have := I2.out.base_le; simp at this; omega) _).far (by have := I2.out.base_le; simp at this; omega) _).far (by have := I2.out.base_le; simp at this; omega) _).low (by simp)⟩, ((N2.out.set (Nat.le_refl _) _).set (Nat.le_refl _) _).set (Nat.le_refl _) _⟩
  case rest =>
    obtain ⟨g7, q1, q2, q3, c1, c2, c3, rfl, rfl, hbx, ⟨i1, i2⟩, hn⟩ := hcut
    have N3 := Lib.hid (NX.out.trans hn)
    have P3 := Lib.hid (P.out.nx N3.out)
    clear hn g2 g3 g5 g6 HS HX HWR P HCC hbx i1 i2
    go_wp2
    go_ret
    exact ⟨rfl, o, P3.out, .inl rfl, Mp.of_nx N3.out b sb o ge⟩
end
section
open Go.RowKit

set_option maxHeartbeats 3200000 in
set_option maxRecDepth 100000 in
theorem vmCoil11_no (base b sb : Nat) (o : Option Nat) (ge : Nat) (nt : Int) (code : List In4) (inp : List Bool) (s : Mc) (op k n t : Int) (h1000 : s.q.length ≤ 1000000 ∧ s.m.length ≤ 1000000) (w : World) (h : PM w base b sb o ge nt code inp s) (hE : wrE s.q s.m k n ≠ 0) :
    Calls Try.prog 42 #[.pointer (some ⟨b, 0, none⟩), .agg #[.int .i64 op, .int .i64 k, .int .i64 n, .int .i64 t]] w (MdNo (wrE s.q s.m k n) w) := by
  have P := Lib.hid h
  have CL := Lib.hid (fun (w' : World) (k' : Nx w w') (v en : Bool) => (vmWrite_no base b sb o ge nt code inp s k n v en h1000 w' (h.nx k') hE).mono (fun e w2 (hh : MdNo (wrE s.q s.m k n) w' e w2) => (show MdNo (wrE s.q s.m k n) w e w2 from ⟨hh.1, k'.trans hh.2⟩)))
  have NX := Lib.hid (Nx.one w (.cells #[.int .i64 op, .int .i64 k, .int .i64 n, .int .i64 t] 28))
  have HX := Lib.hid (bx_new w 28 [.int .i64 op, .int .i64 k, .int .i64 n, .int .i64 t])
  obtain ⟨a0, ha⟩ : ∃ a0, a0 = s.acc := ⟨_, rfl⟩
  have HA := Lib.hid ha
  have P1 := Lib.hid (h.nx NX.out)
  clear ha h hE h1000
  go_enter Try.func42, Try.ntmps42
  go_wp2_with fail
  generalize w.alloc (.cells #[.int .i64 op, .int .i64 k, .int .i64 n, .int .i64 t] 28) = W at *
  generalize w.heap.size = g at *
  have c6 : W.cell? ⟨b, 6, none⟩ = some (.bool a0) := by rw [show a0 = s.acc from HA.out]; exact P1.out.cells.2.1
  have x1 := HX.out.cell 1 rfl
  have x2 := HX.out.cell 2 rfl
  go_region_with (go_at_call 55; (with_reducible refine (CL.out _ (NX.out.trans ((Nx.refl W).drew)) _ _).mono ?_); rintro e w2 ⟨rfl, ho2⟩; have H2 := Lib.hid ho2; clear ho2)
  all_goals
    go_wp2
    go_ret
    exact ⟨rfl, H2.out⟩

set_option maxHeartbeats 3200000 in
set_option maxRecDepth 100000 in
theorem vmCoil11_ok (base b sb : Nat) (o : Option Nat) (ge : Nat) (nt : Int) (code : List In4) (inp : List Bool) (s : Mc) (op k n t : Int) (h1000 : s.q.length ≤ 1000000 ∧ s.m.length ≤ 1000000) (w : World) (h : PM w base b sb o ge nt code inp s) (hE : wrE s.q s.m k n = 0) :
    Calls Try.prog 42 #[.pointer (some ⟨b, 0, none⟩), .agg #[.int .i64 op, .int .i64 k, .int .i64 n, .int .i64 t]] w (MdOk base b sb o ge nt code inp (if coW 11 s.acc then { s with q := wrQ s.q k n (coV 11 s.acc), m := wrM s.m k n (coV 11 s.acc) } else s) w) := by
  have P := Lib.hid h
  obtain ⟨sN, hsN⟩ : ∃ sN, sN = (if coW 11 s.acc then { s with q := wrQ s.q k n (coV 11 s.acc), m := wrM s.m k n (coV 11 s.acc) } else s) := ⟨_, rfl⟩
  rw [← hsN]
  have CL := Lib.hid (fun (w' : World) (k' : Nx w w') (a0 : Bool) (ha : s.acc = a0) => (show Calls Try.prog 55 #[.pointer (some ⟨b, 0, none⟩), .agg #[.int .i64 k, .int .i64 n], .bool a0, .bool true] w' (MdOk base b sb o ge nt code inp sN w) from by
    have go : ∀ (v en : Bool) (sX : Mc), sX = sN → Calls Try.prog 55 #[.pointer (some ⟨b, 0, none⟩), .agg #[.int .i64 k, .int .i64 n], .bool v, .bool en] w' (MdOk base b sb o ge nt code inp sX w') → Calls Try.prog 55 #[.pointer (some ⟨b, 0, none⟩), .agg #[.int .i64 k, .int .i64 n], .bool v, .bool en] w' (MdOk base b sb o ge nt code inp sN w) := fun v en sX e hc => hc.mono fun e2 w2 hh => by
      obtain ⟨rfl, o', hp, ho, hm⟩ := hh
      refine ⟨rfl, o', e ▸ hp, ?_, (Mp.of_nx k' b sb o ge).trans hm (.inl rfl)⟩
      rcases ho with ho | ho
      · exact .inl ho
      · exact .inr fun j hj => Nat.le_trans k'.size (ho j hj)
    have on := fun v => vmWrite_on base b sb o ge nt code inp s k n v h1000 w' (h.nx k') hE
    have off := fun v => vmWrite_off base b sb o ge nt code inp s k n v h1000 w' (h.nx k') hE
    rw [ha] at hsN
    cases a0
    · exact go _ _ _ (by rw [hsN]; simp [coW, coV, ha]) (on _)
    · exact go _ _ _ (by rw [hsN]; simp [coW, coV, ha]) (on _)))
  have NX := Lib.hid (Nx.one w (.cells #[.int .i64 op, .int .i64 k, .int .i64 n, .int .i64 t] 28))
  have HX := Lib.hid (bx_new w 28 [.int .i64 op, .int .i64 k, .int .i64 n, .int .i64 t])
  obtain ⟨a0, ha⟩ : ∃ a0, a0 = s.acc := ⟨_, rfl⟩
  have HA := Lib.hid ha
  have P1 := Lib.hid (h.nx NX.out)
  clear hsN ha h hE h1000
  go_enter Try.func42, Try.ntmps42
  go_wp2_with fail
  generalize w.alloc (.cells #[.int .i64 op, .int .i64 k, .int .i64 n, .int .i64 t] 28) = W at *
  generalize w.heap.size = g at *
  have c6 : W.cell? ⟨b, 6, none⟩ = some (.bool a0) := by rw [show a0 = s.acc from HA.out]; exact P1.out.cells.2.1
  have x1 := HX.out.cell 1 rfl
  have x2 := HX.out.cell 2 rfl
  go_region_with (go_at_call 55; (with_reducible refine (CL.out _ (NX.out.trans ((Nx.refl W).drew)) _ HA.out.symm).mono ?_); rintro e w2 ⟨rfl, ho2⟩; have H2 := Lib.hid ho2; clear ho2)
  all_goals
    go_wp2
    go_ret
    exact ⟨rfl, H2.out⟩

set_option maxHeartbeats 3200000 in
set_option maxRecDepth 100000 in
theorem vmCoil12_no (base b sb : Nat) (o : Option Nat) (ge : Nat) (nt : Int) (code : List In4) (inp : List Bool) (s : Mc) (op k n t : Int) (h1000 : s.q.length ≤ 1000000 ∧ s.m.length ≤ 1000000) (w : World) (h : PM w base b sb o ge nt code inp s) (hE : wrE s.q s.m k n ≠ 0) :
    Calls Try.prog 43 #[.pointer (some ⟨b, 0, none⟩), .agg #[.int .i64 op, .int .i64 k, .int .i64 n, .int .i64 t]] w (MdNo (wrE s.q s.m k n) w) := by
  have P := Lib.hid h
  have CL := Lib.hid (fun (w' : World) (k' : Nx w w') (v en : Bool) => (vmWrite_no base b sb o ge nt code inp s k n v en h1000 w' (h.nx k') hE).mono (fun e w2 (hh : MdNo (wrE s.q s.m k n) w' e w2) => (show MdNo (wrE s.q s.m k n) w e w2 from ⟨hh.1, k'.trans hh.2⟩)))
  have NX := Lib.hid (Nx.one w (.cells #[.int .i64 op, .int .i64 k, .int .i64 n, .int .i64 t] 28))
  have HX := Lib.hid (bx_new w 28 [.int .i64 op, .int .i64 k, .int .i64 n, .int .i64 t])
  obtain ⟨a0, ha⟩ : ∃ a0, a0 = s.acc := ⟨_, rfl⟩
  have HA := Lib.hid ha
  have P1 := Lib.hid (h.nx NX.out)
  clear ha h hE h1000
  go_enter Try.func43, Try.ntmps43
  go_wp2_with fail
  generalize w.alloc (.cells #[.int .i64 op, .int .i64 k, .int .i64 n, .int .i64 t] 28) = W at *
  generalize w.heap.size = g at *
  have c6 : W.cell? ⟨b, 6, none⟩ = some (.bool a0) := by rw [show a0 = s.acc from HA.out]; exact P1.out.cells.2.1
  have x1 := HX.out.cell 1 rfl
  have x2 := HX.out.cell 2 rfl
  go_region_with (go_at_call 55; (with_reducible refine (CL.out _ (NX.out.trans ((Nx.refl W).drew)) _ _).mono ?_); rintro e w2 ⟨rfl, ho2⟩; have H2 := Lib.hid ho2; clear ho2)
  all_goals
    go_wp2
    go_ret
    exact ⟨rfl, H2.out⟩

set_option maxHeartbeats 3200000 in
set_option maxRecDepth 100000 in
theorem vmCoil12_ok (base b sb : Nat) (o : Option Nat) (ge : Nat) (nt : Int) (code : List In4) (inp : List Bool) (s : Mc) (op k n t : Int) (h1000 : s.q.length ≤ 1000000 ∧ s.m.length ≤ 1000000) (w : World) (h : PM w base b sb o ge nt code inp s) (hE : wrE s.q s.m k n = 0) :
    Calls Try.prog 43 #[.pointer (some ⟨b, 0, none⟩), .agg #[.int .i64 op, .int .i64 k, .int .i64 n, .int .i64 t]] w (MdOk base b sb o ge nt code inp (if coW 12 s.acc then { s with q := wrQ s.q k n (coV 12 s.acc), m := wrM s.m k n (coV 12 s.acc) } else s) w) := by
  have P := Lib.hid h
  obtain ⟨sN, hsN⟩ : ∃ sN, sN = (if coW 12 s.acc then { s with q := wrQ s.q k n (coV 12 s.acc), m := wrM s.m k n (coV 12 s.acc) } else s) := ⟨_, rfl⟩
  rw [← hsN]
  have CL := Lib.hid (fun (w' : World) (k' : Nx w w') (a0 : Bool) (ha : s.acc = a0) => (show Calls Try.prog 55 #[.pointer (some ⟨b, 0, none⟩), .agg #[.int .i64 k, .int .i64 n], .bool (!a0), .bool true] w' (MdOk base b sb o ge nt code inp sN w) from by
    have go : ∀ (v en : Bool) (sX : Mc), sX = sN → Calls Try.prog 55 #[.pointer (some ⟨b, 0, none⟩), .agg #[.int .i64 k, .int .i64 n], .bool v, .bool en] w' (MdOk base b sb o ge nt code inp sX w') → Calls Try.prog 55 #[.pointer (some ⟨b, 0, none⟩), .agg #[.int .i64 k, .int .i64 n], .bool v, .bool en] w' (MdOk base b sb o ge nt code inp sN w) := fun v en sX e hc => hc.mono fun e2 w2 hh => by
      obtain ⟨rfl, o', hp, ho, hm⟩ := hh
      refine ⟨rfl, o', e ▸ hp, ?_, (Mp.of_nx k' b sb o ge).trans hm (.inl rfl)⟩
      rcases ho with ho | ho
      · exact .inl ho
      · exact .inr fun j hj => Nat.le_trans k'.size (ho j hj)
    have on := fun v => vmWrite_on base b sb o ge nt code inp s k n v h1000 w' (h.nx k') hE
    have off := fun v => vmWrite_off base b sb o ge nt code inp s k n v h1000 w' (h.nx k') hE
    rw [ha] at hsN
    cases a0
    · exact go _ _ _ (by rw [hsN]; simp [coW, coV, ha]) (on _)
    · exact go _ _ _ (by rw [hsN]; simp [coW, coV, ha]) (on _)))
  have NX := Lib.hid (Nx.one w (.cells #[.int .i64 op, .int .i64 k, .int .i64 n, .int .i64 t] 28))
  have HX := Lib.hid (bx_new w 28 [.int .i64 op, .int .i64 k, .int .i64 n, .int .i64 t])
  obtain ⟨a0, ha⟩ : ∃ a0, a0 = s.acc := ⟨_, rfl⟩
  have HA := Lib.hid ha
  have P1 := Lib.hid (h.nx NX.out)
  clear hsN ha h hE h1000
  go_enter Try.func43, Try.ntmps43
  go_wp2_with fail
  generalize w.alloc (.cells #[.int .i64 op, .int .i64 k, .int .i64 n, .int .i64 t] 28) = W at *
  generalize w.heap.size = g at *
  have c6 : W.cell? ⟨b, 6, none⟩ = some (.bool a0) := by rw [show a0 = s.acc from HA.out]; exact P1.out.cells.2.1
  have x1 := HX.out.cell 1 rfl
  have x2 := HX.out.cell 2 rfl
  go_region_with (go_at_call 55; (with_reducible refine (CL.out _ (NX.out.trans ((Nx.refl W).drew)) _ HA.out.symm).mono ?_); rintro e w2 ⟨rfl, ho2⟩; have H2 := Lib.hid ho2; clear ho2)
  all_goals
    go_wp2
    go_ret
    exact ⟨rfl, H2.out⟩

set_option maxHeartbeats 3200000 in
set_option maxRecDepth 100000 in
theorem vmCoil13_no (base b sb : Nat) (o : Option Nat) (ge : Nat) (nt : Int) (code : List In4) (inp : List Bool) (s : Mc) (op k n t : Int) (h1000 : s.q.length ≤ 1000000 ∧ s.m.length ≤ 1000000) (w : World) (h : PM w base b sb o ge nt code inp s) (hE : wrE s.q s.m k n ≠ 0) :
    Calls Try.prog 44 #[.pointer (some ⟨b, 0, none⟩), .agg #[.int .i64 op, .int .i64 k, .int .i64 n, .int .i64 t]] w (MdNo (wrE s.q s.m k n) w) := by
  have P := Lib.hid h
  have CL := Lib.hid (fun (w' : World) (k' : Nx w w') (v en : Bool) => (vmWrite_no base b sb o ge nt code inp s k n v en h1000 w' (h.nx k') hE).mono (fun e w2 (hh : MdNo (wrE s.q s.m k n) w' e w2) => (show MdNo (wrE s.q s.m k n) w e w2 from ⟨hh.1, k'.trans hh.2⟩)))
  have NX := Lib.hid (Nx.one w (.cells #[.int .i64 op, .int .i64 k, .int .i64 n, .int .i64 t] 28))
  have HX := Lib.hid (bx_new w 28 [.int .i64 op, .int .i64 k, .int .i64 n, .int .i64 t])
  obtain ⟨a0, ha⟩ : ∃ a0, a0 = s.acc := ⟨_, rfl⟩
  have HA := Lib.hid ha
  have P1 := Lib.hid (h.nx NX.out)
  clear ha h hE h1000
  go_enter Try.func44, Try.ntmps44
  go_wp2_with fail
  generalize w.alloc (.cells #[.int .i64 op, .int .i64 k, .int .i64 n, .int .i64 t] 28) = W at *
  generalize w.heap.size = g at *
  have c6 : W.cell? ⟨b, 6, none⟩ = some (.bool a0) := by rw [show a0 = s.acc from HA.out]; exact P1.out.cells.2.1
  have x1 := HX.out.cell 1 rfl
  have x2 := HX.out.cell 2 rfl
  go_region_with (go_at_call 55; (with_reducible refine (CL.out _ (NX.out.trans ((Nx.refl W).drew)) _ _).mono ?_); rintro e w2 ⟨rfl, ho2⟩; have H2 := Lib.hid ho2; clear ho2)
  all_goals
    go_wp2
    go_ret
    exact ⟨rfl, H2.out⟩

set_option maxHeartbeats 3200000 in
set_option maxRecDepth 100000 in
theorem vmCoil13_ok (base b sb : Nat) (o : Option Nat) (ge : Nat) (nt : Int) (code : List In4) (inp : List Bool) (s : Mc) (op k n t : Int) (h1000 : s.q.length ≤ 1000000 ∧ s.m.length ≤ 1000000) (w : World) (h : PM w base b sb o ge nt code inp s) (hE : wrE s.q s.m k n = 0) :
    Calls Try.prog 44 #[.pointer (some ⟨b, 0, none⟩), .agg #[.int .i64 op, .int .i64 k, .int .i64 n, .int .i64 t]] w (MdOk base b sb o ge nt code inp (if coW 13 s.acc then { s with q := wrQ s.q k n (coV 13 s.acc), m := wrM s.m k n (coV 13 s.acc) } else s) w) := by
  have P := Lib.hid h
  obtain ⟨sN, hsN⟩ : ∃ sN, sN = (if coW 13 s.acc then { s with q := wrQ s.q k n (coV 13 s.acc), m := wrM s.m k n (coV 13 s.acc) } else s) := ⟨_, rfl⟩
  rw [← hsN]
  have CL := Lib.hid (fun (w' : World) (k' : Nx w w') (a0 : Bool) (ha : s.acc = a0) => (show Calls Try.prog 55 #[.pointer (some ⟨b, 0, none⟩), .agg #[.int .i64 k, .int .i64 n], .bool true, .bool a0] w' (MdOk base b sb o ge nt code inp sN w) from by
    have go : ∀ (v en : Bool) (sX : Mc), sX = sN → Calls Try.prog 55 #[.pointer (some ⟨b, 0, none⟩), .agg #[.int .i64 k, .int .i64 n], .bool v, .bool en] w' (MdOk base b sb o ge nt code inp sX w') → Calls Try.prog 55 #[.pointer (some ⟨b, 0, none⟩), .agg #[.int .i64 k, .int .i64 n], .bool v, .bool en] w' (MdOk base b sb o ge nt code inp sN w) := fun v en sX e hc => hc.mono fun e2 w2 hh => by
      obtain ⟨rfl, o', hp, ho, hm⟩ := hh
      refine ⟨rfl, o', e ▸ hp, ?_, (Mp.of_nx k' b sb o ge).trans hm (.inl rfl)⟩
      rcases ho with ho | ho
      · exact .inl ho
      · exact .inr fun j hj => Nat.le_trans k'.size (ho j hj)
    have on := fun v => vmWrite_on base b sb o ge nt code inp s k n v h1000 w' (h.nx k') hE
    have off := fun v => vmWrite_off base b sb o ge nt code inp s k n v h1000 w' (h.nx k') hE
    rw [ha] at hsN
    cases a0
    · exact go _ _ _ (by rw [hsN]; simp [coW]) (off _)
    · exact go _ _ _ (by rw [hsN]; simp [coW, coV, ha]) (on _)))
  have NX := Lib.hid (Nx.one w (.cells #[.int .i64 op, .int .i64 k, .int .i64 n, .int .i64 t] 28))
  have HX := Lib.hid (bx_new w 28 [.int .i64 op, .int .i64 k, .int .i64 n, .int .i64 t])
  obtain ⟨a0, ha⟩ : ∃ a0, a0 = s.acc := ⟨_, rfl⟩
  have HA := Lib.hid ha
  have P1 := Lib.hid (h.nx NX.out)
  clear hsN ha h hE h1000
  go_enter Try.func44, Try.ntmps44
  go_wp2_with fail
  generalize w.alloc (.cells #[.int .i64 op, .int .i64 k, .int .i64 n, .int .i64 t] 28) = W at *
  generalize w.heap.size = g at *
  have c6 : W.cell? ⟨b, 6, none⟩ = some (.bool a0) := by rw [show a0 = s.acc from HA.out]; exact P1.out.cells.2.1
  have x1 := HX.out.cell 1 rfl
  have x2 := HX.out.cell 2 rfl
  go_region_with (go_at_call 55; (with_reducible refine (CL.out _ (NX.out.trans ((Nx.refl W).drew)) _ HA.out.symm).mono ?_); rintro e w2 ⟨rfl, ho2⟩; have H2 := Lib.hid ho2; clear ho2)
  all_goals
    go_wp2
    go_ret
    exact ⟨rfl, H2.out⟩

set_option maxHeartbeats 3200000 in
set_option maxRecDepth 100000 in
theorem vmCoil14_no (base b sb : Nat) (o : Option Nat) (ge : Nat) (nt : Int) (code : List In4) (inp : List Bool) (s : Mc) (op k n t : Int) (h1000 : s.q.length ≤ 1000000 ∧ s.m.length ≤ 1000000) (w : World) (h : PM w base b sb o ge nt code inp s) (hE : wrE s.q s.m k n ≠ 0) :
    Calls Try.prog 45 #[.pointer (some ⟨b, 0, none⟩), .agg #[.int .i64 op, .int .i64 k, .int .i64 n, .int .i64 t]] w (MdNo (wrE s.q s.m k n) w) := by
  have P := Lib.hid h
  have CL := Lib.hid (fun (w' : World) (k' : Nx w w') (v en : Bool) => (vmWrite_no base b sb o ge nt code inp s k n v en h1000 w' (h.nx k') hE).mono (fun e w2 (hh : MdNo (wrE s.q s.m k n) w' e w2) => (show MdNo (wrE s.q s.m k n) w e w2 from ⟨hh.1, k'.trans hh.2⟩)))
  have NX := Lib.hid (Nx.one w (.cells #[.int .i64 op, .int .i64 k, .int .i64 n, .int .i64 t] 28))
  have HX := Lib.hid (bx_new w 28 [.int .i64 op, .int .i64 k, .int .i64 n, .int .i64 t])
  obtain ⟨a0, ha⟩ : ∃ a0, a0 = s.acc := ⟨_, rfl⟩
  have HA := Lib.hid ha
  have P1 := Lib.hid (h.nx NX.out)
  clear ha h hE h1000
  go_enter Try.func45, Try.ntmps45
  go_wp2_with fail
  generalize w.alloc (.cells #[.int .i64 op, .int .i64 k, .int .i64 n, .int .i64 t] 28) = W at *
  generalize w.heap.size = g at *
  have c6 : W.cell? ⟨b, 6, none⟩ = some (.bool a0) := by rw [show a0 = s.acc from HA.out]; exact P1.out.cells.2.1
  have x1 := HX.out.cell 1 rfl
  have x2 := HX.out.cell 2 rfl
  go_region_with (go_at_call 55; (with_reducible refine (CL.out _ (NX.out.trans ((Nx.refl W).drew)) _ _).mono ?_); rintro e w2 ⟨rfl, ho2⟩; have H2 := Lib.hid ho2; clear ho2)
  all_goals
    go_wp2
    go_ret
    exact ⟨rfl, H2.out⟩

set_option maxHeartbeats 3200000 in
set_option maxRecDepth 100000 in
theorem vmCoil14_ok (base b sb : Nat) (o : Option Nat) (ge : Nat) (nt : Int) (code : List In4) (inp : List Bool) (s : Mc) (op k n t : Int) (h1000 : s.q.length ≤ 1000000 ∧ s.m.length ≤ 1000000) (w : World) (h : PM w base b sb o ge nt code inp s) (hE : wrE s.q s.m k n = 0) :
    Calls Try.prog 45 #[.pointer (some ⟨b, 0, none⟩), .agg #[.int .i64 op, .int .i64 k, .int .i64 n, .int .i64 t]] w (MdOk base b sb o ge nt code inp (if coW 14 s.acc then { s with q := wrQ s.q k n (coV 14 s.acc), m := wrM s.m k n (coV 14 s.acc) } else s) w) := by
  have P := Lib.hid h
  obtain ⟨sN, hsN⟩ : ∃ sN, sN = (if coW 14 s.acc then { s with q := wrQ s.q k n (coV 14 s.acc), m := wrM s.m k n (coV 14 s.acc) } else s) := ⟨_, rfl⟩
  rw [← hsN]
  have CL := Lib.hid (fun (w' : World) (k' : Nx w w') (a0 : Bool) (ha : s.acc = a0) => (show Calls Try.prog 55 #[.pointer (some ⟨b, 0, none⟩), .agg #[.int .i64 k, .int .i64 n], .bool false, .bool a0] w' (MdOk base b sb o ge nt code inp sN w) from by
    have go : ∀ (v en : Bool) (sX : Mc), sX = sN → Calls Try.prog 55 #[.pointer (some ⟨b, 0, none⟩), .agg #[.int .i64 k, .int .i64 n], .bool v, .bool en] w' (MdOk base b sb o ge nt code inp sX w') → Calls Try.prog 55 #[.pointer (some ⟨b, 0, none⟩), .agg #[.int .i64 k, .int .i64 n], .bool v, .bool en] w' (MdOk base b sb o ge nt code inp sN w) := fun v en sX e hc => hc.mono fun e2 w2 hh => by
      obtain ⟨rfl, o', hp, ho, hm⟩ := hh
      refine ⟨rfl, o', e ▸ hp, ?_, (Mp.of_nx k' b sb o ge).trans hm (.inl rfl)⟩
      rcases ho with ho | ho
      · exact .inl ho
      · exact .inr fun j hj => Nat.le_trans k'.size (ho j hj)
    have on := fun v => vmWrite_on base b sb o ge nt code inp s k n v h1000 w' (h.nx k') hE
    have off := fun v => vmWrite_off base b sb o ge nt code inp s k n v h1000 w' (h.nx k') hE
    rw [ha] at hsN
    cases a0
    · exact go _ _ _ (by rw [hsN]; simp [coW]) (off _)
    · exact go _ _ _ (by rw [hsN]; simp [coW, coV, ha]) (on _)))
  have NX := Lib.hid (Nx.one w (.cells #[.int .i64 op, .int .i64 k, .int .i64 n, .int .i64 t] 28))
  have HX := Lib.hid (bx_new w 28 [.int .i64 op, .int .i64 k, .int .i64 n, .int .i64 t])
  obtain ⟨a0, ha⟩ : ∃ a0, a0 = s.acc := ⟨_, rfl⟩
  have HA := Lib.hid ha
  have P1 := Lib.hid (h.nx NX.out)
  clear hsN ha h hE h1000
  go_enter Try.func45, Try.ntmps45
  go_wp2_with fail
  generalize w.alloc (.cells #[.int .i64 op, .int .i64 k, .int .i64 n, .int .i64 t] 28) = W at *
  generalize w.heap.size = g at *
  have c6 : W.cell? ⟨b, 6, none⟩ = some (.bool a0) := by rw [show a0 = s.acc from HA.out]; exact P1.out.cells.2.1
  have x1 := HX.out.cell 1 rfl
  have x2 := HX.out.cell 2 rfl
  go_region_with (go_at_call 55; (with_reducible refine (CL.out _ (NX.out.trans ((Nx.refl W).drew)) _ HA.out.symm).mono ?_); rintro e w2 ⟨rfl, ho2⟩; have H2 := Lib.hid ho2; clear ho2)
  all_goals
    go_wp2
    go_ret
    exact ⟨rfl, H2.out⟩
end
section
open Go.RowKit

section
variable {w : World} {base b sb : Nat} {o : Option Nat} {ge : Nat} {nt : Int} {code : List In4} {inp : List Bool} {s : Mc}
theorem PM.prog (h : PM w base b sb o ge nt code inp s) : ∃ A c, w.cell? ⟨b, 0, none⟩ = some (.slice A code.length c) ∧ RdC w A code := by
  obtain ⟨vc, vi, gq, gm, cq, cm, ce, mb, md, hb, h1, ⟨hc, hi⟩, _⟩ := h
  obtain ⟨A, c, rfl, hr, _⟩ := hc.rd
  exact ⟨A, c, hb.cell 0 rfl, hr⟩
end

set_option maxHeartbeats 1600000 in
set_option maxRecDepth 100000 in
theorem vmJump_neg (base b sb : Nat) (o : Option Nat) (ge : Nat) (nt : Int) (code : List In4) (inp : List Bool) (s : Mc) (op k n t : Int) (ht : t < 0) (w : World) (h : PM w base b sb o ge nt code inp s) :
    Calls Try.prog 46 #[.pointer (some ⟨b, 0, none⟩), .agg #[.int .i64 op, .int .i64 k, .int .i64 n, .int .i64 t]] w (MdNo 3 w) := by
  have NX := Lib.hid (Nx.one w (.cells #[.int .i64 op, .int .i64 k, .int .i64 n, .int .i64 t] 28))
  have HX := Lib.hid (bx_new w 28 [.int .i64 op, .int .i64 k, .int .i64 n, .int .i64 t])
  have P := Lib.hid (h.nx NX.out)
  obtain ⟨A, c, c0, _⟩ := P.out.prog
  have c5 := P.out.cells.1
  have c6 := P.out.cells.2.1
  have c9 := P.out.cells.2.2.2.1
  have f9 := P.out.frozen 9
  have x3 := HX.out.cell 3 rfl
  clear h
  go_enter Try.func46, Try.ntmps46
  go_wp2_with fail
  generalize w.alloc (.cells #[.int .i64 op, .int .i64 k, .int .i64 n, .int .i64 t] 28) = W at *
  generalize w.heap.size = g at *
  go_quiet (fail)
  go_wp2
  go_ret
  exact ⟨rfl, NX.out.trans (by repeat (first | exact Nx.refl _ | assumption | refine Nx.drewN ?_ _ | refine Nx.drew ?_ | refine Nx.alloc ?_ _ | refine Nx.set ?_ (by first | exact Nat.le_refl _ | (simp; done) | (simp; omega)) _))⟩

set_option maxHeartbeats 1600000 in
set_option maxRecDepth 100000 in
theorem vmJump_range (base b sb : Nat) (o : Option Nat) (ge : Nat) (nt : Int) (code : List In4) (inp : List Bool) (s : Mc) (op k n t : Int) (ht : ¬ t < 0) (hr : (code.length : Int) ≤ t) (w : World) (h : PM w base b sb o ge nt code inp s) :
    Calls Try.prog 46 #[.pointer (some ⟨b, 0, none⟩), .agg #[.int .i64 op, .int .i64 k, .int .i64 n, .int .i64 t]] w (MdNo 3 w) := by
  have NX := Lib.hid (Nx.one w (.cells #[.int .i64 op, .int .i64 k, .int .i64 n, .int .i64 t] 28))
  have HX := Lib.hid (bx_new w 28 [.int .i64 op, .int .i64 k, .int .i64 n, .int .i64 t])
  have P := Lib.hid (h.nx NX.out)
  obtain ⟨A, c, c0, _⟩ := P.out.prog
  have c5 := P.out.cells.1
  have c6 := P.out.cells.2.1
  have c9 := P.out.cells.2.2.2.1
  have f9 := P.out.frozen 9
  have x3 := HX.out.cell 3 rfl
  clear h
  go_enter Try.func46, Try.ntmps46
  go_wp2_with fail
  generalize w.alloc (.cells #[.int .i64 op, .int .i64 k, .int .i64 n, .int .i64 t] 28) = W at *
  generalize w.heap.size = g at *
  go_quiet (fail)
  go_wp2
  go_ret
  exact ⟨rfl, NX.out.trans (by repeat (first | exact Nx.refl _ | assumption | refine Nx.drewN ?_ _ | refine Nx.drew ?_ | refine Nx.alloc ?_ _ | refine Nx.set ?_ (by first | exact Nat.le_refl _ | (simp; done) | (simp; omega)) _))⟩

set_option maxHeartbeats 1600000 in
set_option maxRecDepth 100000 in
theorem vmJump_order (base b sb : Nat) (o : Option Nat) (ge : Nat) (nt : Int) (code : List In4) (inp : List Bool) (s : Mc) (op k n t : Int) (ht : ¬ t < 0) (hr : ¬ (code.length : Int) ≤ t) (ho : t ≤ (s.pc : Int)) (w : World) (h : PM w base b sb o ge nt code inp s) :
    Calls Try.prog 46 #[.pointer (some ⟨b, 0, none⟩), .agg #[.int .i64 op, .int .i64 k, .int .i64 n, .int .i64 t]] w (MdNo 17 w) := by
  have NX := Lib.hid (Nx.one w (.cells #[.int .i64 op, .int .i64 k, .int .i64 n, .int .i64 t] 28))
  have HX := Lib.hid (bx_new w 28 [.int .i64 op, .int .i64 k, .int .i64 n, .int .i64 t])
  have P := Lib.hid (h.nx NX.out)
  obtain ⟨A, c, c0, _⟩ := P.out.prog
  have c5 := P.out.cells.1
  have c6 := P.out.cells.2.1
  have c9 := P.out.cells.2.2.2.1
  have f9 := P.out.frozen 9
  have x3 := HX.out.cell 3 rfl
  clear h
  go_enter Try.func46, Try.ntmps46
  go_wp2_with fail
  generalize w.alloc (.cells #[.int .i64 op, .int .i64 k, .int .i64 n, .int .i64 t] 28) = W at *
  generalize w.heap.size = g at *
  go_quiet (fail)
  go_wp2_with fail
  go_quiet (fail)
  go_wp2
  go_ret
  exact ⟨rfl, NX.out.trans (by repeat (first | exact Nx.refl _ | assumption | refine Nx.drewN ?_ _ | refine Nx.drew ?_ | refine Nx.alloc ?_ _ | refine Nx.set ?_ (by first | exact Nat.le_refl _ | (simp; done) | (simp; omega)) _))⟩

set_option maxHeartbeats 1600000 in
set_option maxRecDepth 100000 in
theorem vmJump_not (base b sb : Nat) (o : Option Nat) (ge : Nat) (nt : Int) (code : List In4) (inp : List Bool) (s : Mc) (op k n t : Int) (ht : ¬ t < 0) (hr : ¬ (code.length : Int) ≤ t) (ho : ¬ t ≤ (s.pc : Int)) (ha : s.acc = false) (w : World) (h : PM w base b sb o ge nt code inp s) :
    Calls Try.prog 46 #[.pointer (some ⟨b, 0, none⟩), .agg #[.int .i64 op, .int .i64 k, .int .i64 n, .int .i64 t]] w (MdOk base b sb o ge nt code inp s w) := by
  have NX := Lib.hid (Nx.one w (.cells #[.int .i64 op, .int .i64 k, .int .i64 n, .int .i64 t] 28))
  have HX := Lib.hid (bx_new w 28 [.int .i64 op, .int .i64 k, .int .i64 n, .int .i64 t])
  have P := Lib.hid (h.nx NX.out)
  obtain ⟨A, c, c0, _⟩ := P.out.prog
  have c5 := P.out.cells.1
  have c6 := P.out.cells.2.1
  have c9 := P.out.cells.2.2.2.1
  have f9 := P.out.frozen 9
  have x3 := HX.out.cell 3 rfl
  rw [ha] at c6
  clear h
  go_enter Try.func46, Try.ntmps46
  go_wp2_with fail
  generalize w.alloc (.cells #[.int .i64 op, .int .i64 k, .int .i64 n, .int .i64 t] 28) = W at *
  generalize w.heap.size = g at *
  go_quiet (fail)
  go_wp2_with fail
  go_quiet (fail)
  go_wp2
  go_ret
  exact ⟨rfl, o, P.out.nx (by repeat (first | exact Nx.refl _ | assumption | refine Nx.drewN ?_ _ | refine Nx.drew ?_ | refine Nx.alloc ?_ _ | refine Nx.set ?_ (by first | exact Nat.le_refl _ | (simp; done) | (simp; omega)) _)), .inl rfl, Mp.of_nx (NX.out.trans (by repeat (first | exact Nx.refl _ | assumption | refine Nx.drewN ?_ _ | refine Nx.drew ?_ | refine Nx.alloc ?_ _ | refine Nx.set ?_ (by first | exact Nat.le_refl _ | (simp; done) | (simp; omega)) _))) b sb o ge⟩

set_option maxHeartbeats 1600000 in
set_option maxRecDepth 100000 in
theorem vmJump_yes (base b sb : Nat) (o : Option Nat) (ge : Nat) (nt : Int) (code : List In4) (inp : List Bool) (s : Mc) (op k n t : Int) (ht : ¬ t < 0) (hr : ¬ (code.length : Int) ≤ t) (ho : ¬ t ≤ (s.pc : Int)) (ha : s.acc = true) (w : World) (h : PM w base b sb o ge nt code inp s) :
    Calls Try.prog 46 #[.pointer (some ⟨b, 0, none⟩), .agg #[.int .i64 op, .int .i64 k, .int .i64 n, .int .i64 t]] w (MdOk base b sb o ge t code inp s w) := by
  have NX := Lib.hid (Nx.one w (.cells #[.int .i64 op, .int .i64 k, .int .i64 n, .int .i64 t] 28))
  have HX := Lib.hid (bx_new w 28 [.int .i64 op, .int .i64 k, .int .i64 n, .int .i64 t])
  have P := Lib.hid (h.nx NX.out)
  obtain ⟨A, c, c0, _⟩ := P.out.prog
  have c5 := P.out.cells.1
  have c6 := P.out.cells.2.1
  have c9 := P.out.cells.2.2.2.1
  have f9 := P.out.frozen 9
  have x3 := HX.out.cell 3 rfl
  rw [ha] at c6
  clear h
  go_enter Try.func46, Try.ntmps46
  go_wp2_with fail
  generalize w.alloc (.cells #[.int .i64 op, .int .i64 k, .int .i64 n, .int .i64 t] 28) = W at *
  generalize w.heap.size = g at *
  go_quiet (fail)
  go_wp2_with fail
  go_quiet (fail)
  go_wp2
  go_ret
  exact ⟨rfl, o, (P.out.nx (by repeat (first | exact Nx.refl _ | assumption | refine Nx.drewN ?_ _ | refine Nx.drew ?_ | refine Nx.alloc ?_ _ | refine Nx.set ?_ (by first | exact Nat.le_refl _ | (simp; done) | (simp; omega)) _))).setNx t, .inl rfl, (Mp.of_nx (NX.out.trans (by repeat (first | exact Nx.refl _ | assumption | refine Nx.drewN ?_ _ | refine Nx.drew ?_ | refine Nx.alloc ?_ _ | refine Nx.set ?_ (by first | exact Nat.le_refl _ | (simp; done) | (simp; omega)) _))) b sb o ge).set 9 _⟩

set_option maxHeartbeats 1600000 in
set_option maxRecDepth 100000 in
theorem vmEnd_ok (base b sb : Nat) (o : Option Nat) (ge : Nat) (nt : Int) (code : List In4) (inp : List Bool) (s : Mc) (op k n t : Int) (w : World) (h : PM w base b sb o ge nt code inp s) :
    Calls Try.prog 47 #[.pointer (some ⟨b, 0, none⟩), .agg #[.int .i64 op, .int .i64 k, .int .i64 n, .int .i64 t]] w (MdOk base b sb o ge (s.pc : Int) code inp { s with hlt := true } w) := by
  have NX := Lib.hid (Nx.one w (.cells #[.int .i64 op, .int .i64 k, .int .i64 n, .int .i64 t] 28))
  have P := Lib.hid (h.nx NX.out)
  have c5 := P.out.cells.1
  have c9 := P.out.cells.2.2.2.1
  have f9 := P.out.frozen 9
  have d := (P.out.setNx (s.pc : Int)).cells.2.2.2.2.1
  have f10 := (P.out.setNx (s.pc : Int)).frozen 10
  clear h
  go_enter Try.func47, Try.ntmps47
  go_wp2_with fail
  generalize w.alloc (.cells #[.int .i64 op, .int .i64 k, .int .i64 n, .int .i64 t] 28) = W at *
  go_wp2
  go_ret
  exact ⟨rfl, o, (P.out.setNx (s.pc : Int)).setHlt true, .inl rfl, ((Mp.of_nx NX.out b sb o ge).set 9 _).set 10 _⟩
end
section
open Go.RowKit

/-- The first n methods of the table. -/
def mtN (b n : Nat) : Array MapEntry := ((mts b).toList.take n).toArray
theorem alloc_set (w : World) (o o' : Obj) : { w.alloc o with heap := (w.alloc o).heap.setIfInBounds w.heap.size o' } = w.alloc o' := by
  have e : (w.heap.push o).setIfInBounds w.heap.size o' = w.heap.push o' := by
    apply Array.ext'
    simp
  show { w with heap := (w.heap.push o).setIfInBounds w.heap.size o' } = { w with heap := w.heap.push o' }
  rw [e]
theorem ins_step (w : World) (es : Array MapEntry) (c : Nat) (k : Int) (v : Value) (hk : Instr.findNow (.int .i64) (.int .i64 k) es.toList 0 = some none) :
    (Instr.mapUpdate 64 (.map (some w.heap.size)) (.int .i64 k) v).run Try.prog (w.alloc (.map es c)) = .ok () (w.alloc (.map (es.push { key := .int .i64 k, val := v, born := c }) (c + 1))) := by
  have hb : (w.alloc (.map es c)).heap[w.heap.size]? = some (.map es c) := heap_alloc_new w _
  have hd : Try.prog.underlying 3 = some (.int .i64) := by kernel_rfl
  have hm : Try.prog.underlying 64 = some (.map 3 84) := by kernel_rfl
  have hc : (Instr.checkKey false 10000 3 (.int .i64 k)).run Try.prog (w.alloc (.map es c)) = .ok () (w.alloc (.map es c)) := MapKept.run_checkKey (k := .int .i64 k) hd (by simp [MapKept.IsKey]) false 9999
  rw [← alloc_set w (.map es c) (.map (es.push { key := .int .i64 k, val := v, born := c }) (c + 1))]
  simp [Instr.mapUpdate, run_underlying hm, MapKept.run_getObj_map hb, hc, MapKept.run_findKey hd hk, MapKept.run_setObj_map _ hb, Result.andThen]

/-- The table that dispatch makes. -/
def DispPost (b : Nat) (w : World) (e : Ending) (w' : World) : Prop := e = .returned (.map (some w.heap.size)) ∧ w'.heap[w.heap.size]? = some (.map (mts b) 17) ∧ Nx w w'

set_option maxHeartbeats 3200000 in
set_option maxRecDepth 100000 in
theorem vmDispatch_any (b : Nat) (w : World) : Calls Try.prog 23 #[.pointer (some ⟨b, 0, none⟩)] w (DispPost b w) := by
  have HF := Lib.hid (show DispPost b w (.returned (.map (some w.heap.size))) (w.alloc (.map (mtN b 17) 17)) from ⟨rfl, (heap_alloc_new w _).trans rfl, Nx.one _ _⟩)
  have e0 : (Instr.mapUpdate 64 (.map (some w.heap.size)) (.int .i64 0) (.func (.func 31) #[.pointer (some ⟨b, 0, none⟩)] #[])).run Try.prog (w.alloc (.map #[] 0)) = .ok () (w.alloc (.map (mtN b 1) 1)) := ins_step w #[] 0 0 _ rfl
  have e1 : (Instr.mapUpdate 64 (.map (some w.heap.size)) (.int .i64 1) (.func (.func 32) #[.pointer (some ⟨b, 0, none⟩)] #[])).run Try.prog (w.alloc (.map (mtN b 1) 1)) = .ok () (w.alloc (.map (mtN b 2) 2)) := ins_step w (mtN b 1) 1 1 _ rfl
  have e2 : (Instr.mapUpdate 64 (.map (some w.heap.size)) (.int .i64 2) (.func (.func 33) #[.pointer (some ⟨b, 0, none⟩)] #[])).run Try.prog (w.alloc (.map (mtN b 2) 2)) = .ok () (w.alloc (.map (mtN b 3) 3)) := ins_step w (mtN b 2) 2 2 _ rfl
  have e3 : (Instr.mapUpdate 64 (.map (some w.heap.size)) (.int .i64 3) (.func (.func 34) #[.pointer (some ⟨b, 0, none⟩)] #[])).run Try.prog (w.alloc (.map (mtN b 3) 3)) = .ok () (w.alloc (.map (mtN b 4) 4)) := ins_step w (mtN b 3) 3 3 _ rfl
  have e4 : (Instr.mapUpdate 64 (.map (some w.heap.size)) (.int .i64 4) (.func (.func 35) #[.pointer (some ⟨b, 0, none⟩)] #[])).run Try.prog (w.alloc (.map (mtN b 4) 4)) = .ok () (w.alloc (.map (mtN b 5) 5)) := ins_step w (mtN b 4) 4 4 _ rfl
  have e5 : (Instr.mapUpdate 64 (.map (some w.heap.size)) (.int .i64 5) (.func (.func 36) #[.pointer (some ⟨b, 0, none⟩)] #[])).run Try.prog (w.alloc (.map (mtN b 5) 5)) = .ok () (w.alloc (.map (mtN b 6) 6)) := ins_step w (mtN b 5) 5 5 _ rfl
  have e6 : (Instr.mapUpdate 64 (.map (some w.heap.size)) (.int .i64 6) (.func (.func 37) #[.pointer (some ⟨b, 0, none⟩)] #[])).run Try.prog (w.alloc (.map (mtN b 6) 6)) = .ok () (w.alloc (.map (mtN b 7) 7)) := ins_step w (mtN b 6) 6 6 _ rfl
  have e7 : (Instr.mapUpdate 64 (.map (some w.heap.size)) (.int .i64 7) (.func (.func 38) #[.pointer (some ⟨b, 0, none⟩)] #[])).run Try.prog (w.alloc (.map (mtN b 7) 7)) = .ok () (w.alloc (.map (mtN b 8) 8)) := ins_step w (mtN b 7) 7 7 _ rfl
  have e8 : (Instr.mapUpdate 64 (.map (some w.heap.size)) (.int .i64 8) (.func (.func 39) #[.pointer (some ⟨b, 0, none⟩)] #[])).run Try.prog (w.alloc (.map (mtN b 8) 8)) = .ok () (w.alloc (.map (mtN b 9) 9)) := ins_step w (mtN b 8) 8 8 _ rfl
  have e9 : (Instr.mapUpdate 64 (.map (some w.heap.size)) (.int .i64 9) (.func (.func 40) #[.pointer (some ⟨b, 0, none⟩)] #[])).run Try.prog (w.alloc (.map (mtN b 9) 9)) = .ok () (w.alloc (.map (mtN b 10) 10)) := ins_step w (mtN b 9) 9 9 _ rfl
  have e10 : (Instr.mapUpdate 64 (.map (some w.heap.size)) (.int .i64 10) (.func (.func 41) #[.pointer (some ⟨b, 0, none⟩)] #[])).run Try.prog (w.alloc (.map (mtN b 10) 10)) = .ok () (w.alloc (.map (mtN b 11) 11)) := ins_step w (mtN b 10) 10 10 _ rfl
  have e11 : (Instr.mapUpdate 64 (.map (some w.heap.size)) (.int .i64 11) (.func (.func 42) #[.pointer (some ⟨b, 0, none⟩)] #[])).run Try.prog (w.alloc (.map (mtN b 11) 11)) = .ok () (w.alloc (.map (mtN b 12) 12)) := ins_step w (mtN b 11) 11 11 _ rfl
  have e12 : (Instr.mapUpdate 64 (.map (some w.heap.size)) (.int .i64 12) (.func (.func 43) #[.pointer (some ⟨b, 0, none⟩)] #[])).run Try.prog (w.alloc (.map (mtN b 12) 12)) = .ok () (w.alloc (.map (mtN b 13) 13)) := ins_step w (mtN b 12) 12 12 _ rfl
  have e13 : (Instr.mapUpdate 64 (.map (some w.heap.size)) (.int .i64 13) (.func (.func 44) #[.pointer (some ⟨b, 0, none⟩)] #[])).run Try.prog (w.alloc (.map (mtN b 13) 13)) = .ok () (w.alloc (.map (mtN b 14) 14)) := ins_step w (mtN b 13) 13 13 _ rfl
  have e14 : (Instr.mapUpdate 64 (.map (some w.heap.size)) (.int .i64 14) (.func (.func 45) #[.pointer (some ⟨b, 0, none⟩)] #[])).run Try.prog (w.alloc (.map (mtN b 14) 14)) = .ok () (w.alloc (.map (mtN b 15) 15)) := ins_step w (mtN b 14) 14 14 _ rfl
  have e15 : (Instr.mapUpdate 64 (.map (some w.heap.size)) (.int .i64 15) (.func (.func 46) #[.pointer (some ⟨b, 0, none⟩)] #[])).run Try.prog (w.alloc (.map (mtN b 15) 15)) = .ok () (w.alloc (.map (mtN b 16) 16)) := ins_step w (mtN b 15) 15 15 _ rfl
  have e16 : (Instr.mapUpdate 64 (.map (some w.heap.size)) (.int .i64 16) (.func (.func 47) #[.pointer (some ⟨b, 0, none⟩)] #[])).run Try.prog (w.alloc (.map (mtN b 16) 16)) = .ok () (w.alloc (.map (mtN b 17) 17)) := ins_step w (mtN b 16) 16 16 _ rfl
  have em : (Instr.makeMap 64 none).run Try.prog w = .ok (.map (some w.heap.size)) (w.alloc (.map #[] 0)) := rfl
  go_enter Try.func23, Try.ntmps23
  go_wp2
  go_ret
  exact HF.out

set_option maxHeartbeats 1600000 in
set_option maxRecDepth 100000 in
theorem cloneB_any {A : Option Addr} {m c : Nat} {xs : List Bool} (w : World) (h : Im w A m c xs) (hm : m ≤ 1000000) :
    Calls Try.prog 21 #[.slice A m c] w fun e w' => ∃ v, e = .returned v ∧ Ow w' w.heap.size v xs ∧ Nx w w' := by
  obtain ⟨hr, hl, hc⟩ := h
  obtain ⟨i0, h2, hz0, hz1, hz2⟩ := info_parts info4
  have NX := Lib.hid (Nx.one w (.cells #[] 4))
  cases A with
  | none =>
    obtain rfl := hc rfl
    have hxs : xs = [] := by
      cases xs with
      | nil => rfl
      | cons b l => obtain ⟨ad, e, _⟩ := hr 0 b rfl; cases e
    subst hxs
    subst hl
    have HF := Lib.hid (show Ow w w.heap.size (.slice none 0 0) [] from World.ownsRow_nil _ _ _ _)
    clear hr hc
    have hq : (binOp .eql 22 (.slice none 0 0) (.slice none 0 0)).run Try.prog w = .ok (.bool true) w := Lib.run_eql_slice_nil w 22 4 none 0 0 0 0 Try.underlying22
    go_enter Try.func21, Try.ntmps21
    go_wp2
    go_ret
    exact ⟨_, rfl, HF.out, Nx.refl _⟩
  | some ad =>
    by_cases h0 : m = 0
    · subst h0
      obtain rfl := List.eq_nil_of_length_eq_zero hl
      have hrun := run_append_room_cells (P := Try.prog) (w.alloc (.cells #[] 4)) 22 22 4 i0 Try.underlying22 h2 w.heap.size 0 0 0 ad 0 c [] (by simp) (by simp) (by simp) (Nat.le_refl _) (by simp) (by simp)
      have HF := Lib.hid (show Ow (w.alloc (.cells #[] 4)) w.heap.size (.slice (some ⟨w.heap.size, 0, none⟩) 0 0) [] from World.ownsRow_lit (base := w.heap.size) (e := 4) (size := 1) w #[] 0 (Nat.le_refl _) (by unfold maxLen; omega) rfl)
      clear hr hc hl h2 hz0 hz1 hz2
      have hq : (binOp .eql 22 (.slice (some ad) 0 c) (.slice none 0 0)).run Try.prog w = .ok (.bool false) w := Lib.run_eql_slice_nil w 22 4 (some ad) 0 c 0 0 Try.underlying22
      go_enter Try.func21, Try.ntmps21
      go_wp2
      go_ret
      exact ⟨_, rfl, HF.out, NX.out⟩
    · have HF := Lib.hid (fun v' (w' : World) (r1 : w'.ownsRow (w.alloc (.cells #[] 4)).heap.size 4 1 v' (0 + m) ([] ++ bools xs)) (r2 : (w.alloc (.cells #[] 4)).grownBy w' none) => (show Ow w' w.heap.size v' xs ∧ Nx w w' from by
        rw [Nat.zero_add, List.nil_append, ← hl] at r1
        exact ⟨own_low r1 (by simp), NX.out.trans (Below.grown (Nx.refl _) r2 (Nat.le_refl _) (fun _ e => by cases e))⟩))
      have HS := Lib.hid (src_of (hr.nx NX.out))
      have HL := Lib.hid (show (bools xs).length = m * 1 by rw [bools_length, hl]; omega)
      have hq : (binOp .eql 22 (.slice (some ad) m c) (.slice none 0 0)).run Try.prog w = .ok (.bool false) w := Lib.run_eql_slice_nil w 22 4 (some ad) m c 0 0 Try.underlying22
      clear hr hc hl
      go_enter Try.func21, Try.ntmps21
      go_wp2_with (first | (at_builtin; refine wpList_append_grows _ rfl (.tmp 5) (.tmp 6) 22 rfl 4 i0 (.bool false) 1 1 Try.underlying22 h2 hz0 hz1 hz2 rfl (by decide) (some ⟨w.heap.size, 0, none⟩) 0 0 [] rfl (fun e => by cases e) rfl (by intro _ _ _ _ h; simp at h) ad m c (bools xs) rfl HL.out HS.out (bools_one xs) (by omega) (by unfold maxLen; omega) (by omega) ?_; intro v' w' r1 r2; have H2 := Lib.hid (HF.out v' w' r1 r2); clear r1 r2))
      go_ret
      exact ⟨_, rfl, H2.out.1, H2.out.2⟩

set_option maxHeartbeats 1600000 in
set_option maxRecDepth 100000 in
theorem cloneC_any {A : Option Addr} {c : Nat} {code : List In4} (w : World) (hr : RdC w A code) (hc : A = none → c = 0) (hm : code.length ≤ 1000000) :
    Calls Try.prog 20 #[.slice A code.length c] w fun e w' => ∃ v, e = .returned v ∧ OwC w' w.heap.size v code ∧ Nx w w' := by
  obtain ⟨i0, h2, hz0, hz1, hz2⟩ := info_parts infoIns
  have NX := Lib.hid (Nx.one w (.cells #[] 28))
  cases A with
  | none =>
    obtain rfl := hc rfl
    have hxs : code = [] := by
      cases code with
      | nil => rfl
      | cons b l => obtain ⟨ad, e, _⟩ := hr 0 b rfl; cases e
    subst hxs
    have HF := Lib.hid (show OwC w w.heap.size (.slice none 0 0) [] from World.ownsRow_nil _ _ _ _)
    clear hr hc
    simp only [List.length_nil]
    have hq : (binOp .eql 24 (.slice none 0 0) (.slice none 0 0)).run Try.prog w = .ok (.bool true) w := Lib.run_eql_slice_nil w 24 28 none 0 0 0 0 Try.underlying24
    go_enter Try.func20, Try.ntmps20
    go_wp2
    go_ret
    exact ⟨_, rfl, HF.out, Nx.refl _⟩
  | some ad =>
    by_cases h0 : code.length = 0
    · obtain rfl := List.eq_nil_of_length_eq_zero h0
      have hrun := run_append_room_cells (P := Try.prog) (w.alloc (.cells #[] 28)) 24 24 28 i0 Try.underlying24 h2 w.heap.size 0 0 0 ad 0 c [] (by simp) (by simp) (by simp) (Nat.le_refl _) (by simp) (by simp)
      have HF := Lib.hid (show OwC (w.alloc (.cells #[] 28)) w.heap.size (.slice (some ⟨w.heap.size, 0, none⟩) 0 0) [] from World.ownsRow_lit (base := w.heap.size) (e := 28) (size := 4) w #[] 0 (Nat.le_refl _) (by unfold maxLen; omega) rfl)
      clear hr hc h0 h2 hz0 hz1 hz2
      simp only [List.length_nil]
      have hq : (binOp .eql 24 (.slice (some ad) 0 c) (.slice none 0 0)).run Try.prog w = .ok (.bool false) w := Lib.run_eql_slice_nil w 24 28 (some ad) 0 c 0 0 Try.underlying24
      go_enter Try.func20, Try.ntmps20
      go_wp2
      go_ret
      exact ⟨_, rfl, HF.out, NX.out⟩
    · obtain ⟨n, hn⟩ : ∃ n, n = code.length := ⟨_, rfl⟩
      have HF := Lib.hid (fun v' (w' : World) (r1 : w'.ownsRow (w.alloc (.cells #[] 28)).heap.size 28 4 v' (0 + n) ([] ++ ins code)) (r2 : (w.alloc (.cells #[] 28)).grownBy w' none) => (show OwC w' w.heap.size v' code ∧ Nx w w' from by
        rw [Nat.zero_add, List.nil_append, hn] at r1
        exact ⟨own_lowC r1 (by simp), NX.out.trans (Below.grown (Nx.refl _) r2 (Nat.le_refl _) (fun _ e => by cases e))⟩))
      have HS := Lib.hid (ins_src (hr.nx NX.out))
      have HL := Lib.hid (show (ins code).length = n * 4 by rw [ins_len, hn])
      rw [← hn] at h0 hm ⊢
      have hq : (binOp .eql 24 (.slice (some ad) n c) (.slice none 0 0)).run Try.prog w = .ok (.bool false) w := Lib.run_eql_slice_nil w 24 28 (some ad) n c 0 0 Try.underlying24
      clear hr hc hn
      go_enter Try.func20, Try.ntmps20
      go_wp2_with (first | (at_builtin; refine wpList_append_grows _ rfl (.tmp 5) (.tmp 6) 24 rfl 28 i0 (.agg #[.int .i64 0, .int .i64 0, .int .i64 0, .int .i64 0]) 4 32 Try.underlying24 h2 hz0 hz1 hz2 rfl (by decide) (some ⟨w.heap.size, 0, none⟩) 0 0 [] rfl (fun e => by cases e) rfl (by intro _ _ _ _ h; simp at h) ad n c (ins code) rfl HL.out HS.out (ins_one code) (by omega) (by unfold maxLen; omega) (by omega) ?_; intro v' w' r1 r2; have H2 := Lib.hid (HF.out v' w' r1 r2); clear r1 r2))
      go_ret
      exact ⟨_, rfl, H2.out.1, H2.out.2⟩
end
end Go.Proofs.Ytdpccnpaajhliaa
