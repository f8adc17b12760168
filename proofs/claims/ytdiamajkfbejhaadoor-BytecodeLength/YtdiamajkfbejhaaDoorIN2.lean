/- What depthAfter and Depths of layer 7 return. Condition: a program that reads as a list. -/
import Derived.Test.YtdiamajkfbejhaaDoorIN1
import Derived.Test.YtdiamajkfbejhaaDoorID
import Derived.OwnWalk
namespace Go.Proofs.YtdiamajkfbejhaaDoor
open Go.RowKit

def dVl (d : Nat) (o : Int) : Int := if dEr d o = 0 then (dNx d o : Int) else 0
set_option maxHeartbeats 800000 in
theorem depthAfter_any (d : Nat) (o : Int) (hd : d ≤ 64) (w : World) : Calls Tryd.prog 47 #[.int .i64 d, .int .i64 o] w fun e w' => e = .returned (.tuple #[.int .i64 (dVl d o), .int .i64 (dEr d o)]) ∧ w = w' := by
  by_cases h8 : o = 8
  · subst h8
    by_cases h64 : d = 64
    · subst h64
      go_enter Tryd.func47, Tryd.ntmps47
      go_wp2
      go_ret2
      exact ⟨rfl, rfl⟩
    · have e1 : ((d : Int) == 64) = false := by rw [beq_eq_false_iff_ne]; omega
      have HV := Lib.hid (show dVl d 8 = (d : Int) + 1 ∧ dEr d 8 = 0 by
        have h0 : dEr d 8 = 0 := by unfold dEr; rw [if_pos rfl, if_neg h64]
        refine ⟨?_, h0⟩
        unfold dVl; rw [if_pos h0]; unfold dNx; rw [if_pos rfl]; omega)
      go_enter Tryd.func47, Tryd.ntmps47
      go_wp2
      go_ret2
      rw [HV.out.1, HV.out.2]
      exact ⟨rfl, rfl⟩
  · have t8 : (o == 8) = false := by simpa using h8
    by_cases h9 : o = 9 ∨ o = 10
    · by_cases h0 : d = 0
      · subst h0
        have HV := Lib.hid (show dVl 0 o = 0 ∧ dEr 0 o = 18 by
          have h0 : dEr 0 o = 18 := by unfold dEr; rw [if_neg h8, if_pos h9, if_pos rfl]
          refine ⟨?_, h0⟩
          unfold dVl; rw [if_neg (by omega)])
        rcases h9 with rfl | rfl
        all_goals
          go_enter Tryd.func47, Tryd.ntmps47
          go_wp2
          go_ret2
          exact ⟨rfl, rfl⟩
      · have e1 : ((d : Int) == 0) = false := by rw [beq_eq_false_iff_ne]; omega
        have HV := Lib.hid (show dVl d o = (d : Int) - 1 ∧ dEr d o = 0 by
          have h1 : dEr d o = 0 := by unfold dEr; rw [if_neg h8, if_pos h9, if_neg h0]
          refine ⟨?_, h1⟩
          unfold dVl; rw [if_pos h1]; unfold dNx; rw [if_neg h8, if_pos h9]; omega)
        rcases h9 with rfl | rfl
        all_goals
          go_enter Tryd.func47, Tryd.ntmps47
          go_wp2
          go_ret2
          rw [HV.out.1, HV.out.2]
          exact ⟨rfl, rfl⟩
    · have t9 : (o == 9) = false := by simp; omega
      have t10 : (o == 10) = false := by simp; omega
      have HV := Lib.hid (show dVl d o = (d : Int) ∧ dEr d o = 0 by
        have h1 : dEr d o = 0 := by unfold dEr; rw [if_neg h8, if_neg h9]
        refine ⟨?_, h1⟩
        unfold dVl; rw [if_pos h1]; unfold dNx; rw [if_neg h8, if_neg h9])
      go_enter Tryd.func47, Tryd.ntmps47
      go_wp2
      go_ret2
      rw [HV.out.1, HV.out.2]
      exact ⟨rfl, rfl⟩

/-- An own row of numbers. -/
def OwN (w : World) (base g c : Nat) (xs : List Nat) : Prop := w.ownsRow base 3 1 (.slice (some ⟨g, 0, none⟩) xs.length c) xs.length (ints xs)
theorem OwN.rd {w : World} {base g c : Nat} {xs : List Nat} (h : OwN w base g c xs) : RdI w (some ⟨g, 0, none⟩) xs := fun k b hk =>
  ⟨_, rfl, (World.ownsRow.cells h (g := g) rfl) k _ (by simp [ints, hk])⟩
theorem OwN.frozen {w : World} {base g c : Nat} {xs : List Nat} (h : OwN w base g c xs) (k : Nat) : w.frozen? ⟨g, k, none⟩ = false := World.ownsRow.frozenAt h k
theorem OwN.cell {w : World} {base g c : Nat} {xs : List Nat} (h : OwN w base g c xs) {k : Nat} {b : Nat} (hk : xs[k]? = some b) : w.cell? ⟨g, k, none⟩ = some (.int .i64 b) := by
  have hlt : k < xs.length := (List.getElem?_eq_some_iff.1 hk).1
  rw [World.ownsRow.cellAt h k (by omega)]; simp [ints, hk]
theorem OwN.set {w : World} {base g c : Nat} {xs : List Nat} (h : OwN w base g c xs) (k : Nat) (b : Nat) : OwN (w.setCell ⟨g, k, none⟩ (.int .i64 b)) base g c (xs.set k b) := by
  have := (World.ownsRow.stored h k (.int .i64 b)).1
  unfold OwN
  rw [List.length_set, show ints (xs.set k b) = (ints xs).set k (.int .i64 b) by simp [ints, List.map_set]]
  exact this
theorem OwN.base_le {w : World} {base g c : Nat} {xs : List Nat} (h : OwN w base g c xs) : base ≤ g := (World.ownsRow.lt h g rfl).1
theorem OwN.nx {w w' : World} {base g c : Nat} {xs : List Nat} (h : OwN w base g c xs) (k : Nx w w') : OwN w' base g c xs := own_of h fun g _ hg => k.block g hg
theorem ownN_new {w : World} {m : Nat} (hl : m ≤ 1000000) : OwN (w.alloc (.cells (madeCells #[.int .i64 0] m) 3)) w.heap.size w.heap.size m (List.replicate m 0) := by
  have h : (w.alloc (.cells (madeCells #[.int .i64 0] m) 3)).heap[w.heap.size]? = some (.cells (ints (List.replicate m 0)).toArray 3 (0, 0)) := by
    rw [show (ints (List.replicate m 0)).toArray = madeCells #[.int .i64 0] m by rw [← Array.toList_inj, toList_madeCells_one]; simp [ints]]
    exact heap_alloc_new w _
  refine ⟨by simp [ints], .inr ⟨_, m, (ints (List.replicate m 0)).toArray, by rw [List.length_replicate], Nat.le_refl _, h, by simp, by unfold maxLen; omega, by simp [ints], by simp [ints]⟩⟩

/-- The four cells of instruction k as the walk asks for them. -/
theorem RdC.fr4 {w : World} {A : Option Addr} {code : List In4} (h : RdC w A code) {k : Nat} {x : In4} (hk : code[k]? = some x) : ∃ ad, A = some ad ∧ w.cell? (ad.add (k * 4)) = some (.int .i64 x.op) ∧
    w.cell? ⟨(ad.add (k * 4)).block, (ad.add (k * 4)).off + 1, none⟩ = some (.int .i64 x.k) ∧ w.cell? ⟨(ad.add (k * 4)).block, (ad.add (k * 4)).off + 2, none⟩ = some (.int .i64 x.n) ∧ w.cell? ⟨(ad.add (k * 4)).block, (ad.add (k * 4)).off + 3, none⟩ = some (.int .i64 x.t) := by
  obtain ⟨ad, e, h1, h2, h3, h4⟩ := h k x hk
  refine ⟨ad, e, h1, ?_, ?_, ?_⟩
  · rw [← Addr.add_add] at h2
    exact (congrArg w.cell? (Addr.add_succ' _ 0)).symm.trans h2
  · rw [← Addr.add_add] at h3
    exact (congrArg w.cell? (Addr.add_succ' _ 1)).symm.trans h3
  · rw [← Addr.add_add] at h4
    exact (congrArg w.cell? (Addr.add_succ' _ 2)).symm.trans h4
theorem code_at (code : List In4) (k : Nat) (h : k < code.length) : ∃ x, code[k]? = some x := ⟨code[k], List.getElem?_eq_getElem h⟩

def DpPost (code : List In4) (w : World) (e : Ending) (w' : World) : Prop :=
  Nx w w' ∧ ((fst (dFl code) code.length = code.length ∧ ∃ g c, e = .returned (.tuple #[.slice (some ⟨g, 0, none⟩) code.length c, .int .i64 code.length, .int .i64 0]) ∧ RdI w' (some ⟨g, 0, none⟩) (dps code)) ∨
    (∃ k : Nat, fst (dFl code) code.length = k ∧ k < code.length ∧ e = .returned (.tuple #[.slice none 0 0, .int .i64 k, .int .i64 (dFl code k)])))

set_option maxHeartbeats 1600000 in
set_option maxRecDepth 100000 in
theorem depths_any (A : Option Addr) (code : List In4) (n c : Nat) (hn : code.length = n) (hl : n ≤ 1000000) (w : World) (hr : RdC w A code) :
    Calls Tryd.prog 30 #[.slice A n c] w (DpPost code w) := by
  have hmk := run_make_row' (P := Tryd.prog) 59 3 (.int .i64 0) 8 Tryd.underlying59 info3 rfl .i64 .i64 n (by omega) (by omega)
  have HR := Lib.hid hr
  have HL := Lib.hid hn
  have O0 := Lib.hid (ownN_new (w := w) hl)
  have N0 := Lib.hid (Nx.one w (.cells (madeCells #[.int .i64 0] n) 3))
  clear hr hn
  go_enter Tryd.func30, Tryd.ntmps30
  go_wp2
  go_loopw [6, 16] (fun d i wr => ∃ k : Nat, k ≤ n ∧ i = .int .i64 k ∧ d = .int .i64 (dAt code k) ∧ (∀ j, j < k → dFl code j = 0) ∧ OwN wr w.heap.size w.heap.size n (dpK code k) ∧ Nx w wr) (fun _ i _ => n - (intOf i).toNat)
  case atStart => exact ⟨0, Nat.zero_le _, rfl, rfl, fun j hj => absurd hj (by omega), by rw [dpK_zero, HL.out]; exact O0.out, N0.out⟩
  case round =>
    obtain ⟨k, hk, rfl, rfl, hz, ho, hnx⟩ := hrel
    have hd := dAt_le (by rw [HL.out]; exact hk) hz
    have HZ := Lib.hid hz
    have HO := Lib.hid ho
    have HN := Lib.hid hnx
    clear hz ho hnx hmk
    by_cases hlt : k < n
    · obtain ⟨x, hx⟩ := code_at code k (by rw [HL.out]; exact hlt)
      have hki : (k : Int) < (n : Int) := by omega
      obtain ⟨ad, rfl, c0, c1, c2, c3⟩ := (HR.out.nx HN.out).fr4 hx
      have HX := Lib.hid hx
      clear hx
      have N1 := Lib.hid (show Nx wr (wr.alloc (.cells #[.int .i64 x.op, .int .i64 x.k, .int .i64 x.n, .int .i64 x.t] 46)) from Nx.one _ _)
      have XB := Lib.hid (bx_new wr 46 [.int .i64 x.op, .int .i64 x.k, .int .i64 x.n, .int .i64 x.t])
      have HO1 := Lib.hid (HO.out.nx N1.out)
      have hf := HO1.out.frozen k
      have hcv := HO1.out.cell (show (dpK code k)[k]? = some 0 by simp [dpK, HL.out, hlt])
      have hlt' := N1.out.size
      have hne : wr.heap.size ≠ w.heap.size := by have := (World.ownsRow.lt HO.out w.heap.size rfl).2; omega
      go_wp2_with fail
      have HE := Lib.hid (show dFl code k = dEr (dAt code k) x.op from dFl_at HX.out)
      have HD := Lib.hid (show OwN ((wr.alloc (.cells #[.int .i64 x.op, .int .i64 x.k, .int .i64 x.n, .int .i64 x.t] 46)).setCell ⟨w.heap.size, k, none⟩ (.int .i64 (dAt code k))) w.heap.size w.heap.size n (dpK code (k + 1)) by
        have := HO1.out.set k (dAt code k)
        rwa [dpK_succ (by rw [HL.out]; exact hlt)] at this)
      have HN2 := Lib.hid (show Nx w ((wr.alloc (.cells #[.int .i64 x.op, .int .i64 x.k, .int .i64 x.n, .int .i64 x.t] 46)).setCell ⟨w.heap.size, k, none⟩ (.int .i64 (dAt code k))) from (HN.out.trans N1.out).set (Nat.le_refl _) _)
      clear c0 c1 c2 c3 hf hcv hlt' hne
      refine (depthAfter_any (dAt code k) x.op hd _).mono ?_
      rintro e w2 ⟨rfl, rfl⟩
      by_cases hz : dEr (dAt code k) x.op = 0
      · have hv : dVl (dAt code k) x.op = (dNx (dAt code k) x.op : Int) := by unfold dVl; rw [if_pos hz]
        have hs := Lib.hid (dAt_succ HX.out)
        rw [hv, hz]
        have HZ2 := Lib.hid (show ∀ j, j < k + 1 → dFl code j = 0 from fun j hj => by
          rcases Nat.lt_or_ge j k with h | h
          · exact HZ.out j h
          · obtain rfl : j = k := by omega
            rw [HE.out, hz])
        clear hv hz
        go_wp2_with fail
        go_roundw
        case rel => exact ⟨k + 1, by omega, by go_num, by rw [hs.out], HZ2.out, HD.out, HN2.out⟩
        case measure => simp [intOf]; omega
      · have hv : dVl (dAt code k) x.op = 0 := by unfold dVl; rw [if_neg hz]
        have t1 : (dEr (dAt code k) x.op == 0) = false := by simpa using hz
        have t2 : (dEr (dAt code k) x.op != 0) = true := by simpa using hz
        have HF := Lib.hid (show fst (dFl code) code.length = k from fst_at (by rw [HL.out]; exact hlt) HZ.out (by rw [HE.out]; exact hz))
        rw [hv]
        generalize dEr (dAt code k) x.op = R at *
        have HR2 := Lib.hid HE.out
        clear hz
        go_wp2_with fail
        go_ret3
        refine ⟨HN2.out, .inr ⟨k, HF.out, by rw [HL.out]; exact hlt, ?_⟩⟩
        rw [HR2.out]
        rfl
    · obtain rfl : k = n := by omega
      have hki : ¬ (k : Int) < (k : Int) := by omega
      have HF := Lib.hid (show fst (dFl code) code.length = code.length from fst_none (by rw [HL.out]; exact HZ.out))
      have HP := Lib.hid (show RdI wr (some ⟨w.heap.size, 0, none⟩) (dps code) by
        have := HO.out.rd
        have e : dpK code k = dps code := by rw [← dpK_all, HL.out]
        rwa [e] at this)
      clear hki
      go_wp2_with fail
      go_ret3
      refine ⟨HN.out, .inl ⟨HF.out, w.heap.size, k, ?_, HP.out⟩⟩
      rw [HL.out]
      rfl
end Go.Proofs.YtdiamajkfbejhaaDoor
