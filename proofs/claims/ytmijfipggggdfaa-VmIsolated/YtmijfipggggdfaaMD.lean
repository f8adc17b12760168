/- Words for the accumulator machine: what an instruction does to a machine's state, and how the reference's machine lies in memory. No condition. What the reference's machine does for ld to orn. What the reference's machine does for rise and fall. What the reference's machine does for andp and orp. What the reference's machine does for st, stn, set and rst. Conditions: as each theorem states them. -/
import Derived.Test.YtmijfipggggdfaaMC
import Derived.Test.YtmijfipggggdfaaMB
import Derived.Deep.RegionHeld3
import Derived.Deep.QuietTactic
import Derived.BigQuiet
import Derived.StillTailTactics
import Derived.Deep.RegionWith
import Derived.Deep.DeepCutAuto
namespace Go.Proofs.Ytmijfipggggdfaa
section
open Go.RowKit
variable {F : Nat → Prop}

/-- An instruction: opcode, space and number of the address, operand. -/
structure In4 where
  op : Int
  k : Int
  n : Int
  t : Int
/-- What of a machine turns. -/
structure Mc where
  q : List Bool
  m : List Bool
  e : List Bool
  pc : Nat
  acc : Bool
  stk : List Bool
  hlt : Bool
  flt : Int

def bitV (inp : List Bool) (s : Mc) (x : In4) : Bool := rdSV inp s.q s.m x.k x.n
def bitE (inp : List Bool) (s : Mc) (x : In4) : Int := rdSE inp s.q s.m x.k x.n
/-- The bit, or its negation for an odd opcode. -/
def bitN (op : Int) (v : Bool) : Bool := if op % 2 = 1 then !v else v
def lgA (op : Int) (acc v : Bool) : Bool := if op / 2 = 0 then bitN op v else if op / 2 = 1 then (acc && bitN op v) else (acc || bitN op v)
def edA (op : Int) (v was : Bool) : Bool := if op = 6 then (v && !was) else (!v && was)
def coV (op : Int) (acc : Bool) : Bool := if op = 12 then !acc else if op = 14 then false else acc
def coW (op : Int) (acc : Bool) : Bool := if op = 13 ∨ op = 14 then acc else true
/-- The fault of an instruction, 0 for none, in a program of len instructions. -/
def insE (inp : List Bool) (len : Nat) (s : Mc) (x : In4) : Int :=
  if 0 ≤ x.op ∧ x.op ≤ 5 then bitE inp s x
  else if x.op = 6 ∨ x.op = 7 then (if bitE inp s x ≠ 0 then bitE inp s x else if x.t < 0 ∨ (s.e.length : Int) ≤ x.t then 3 else 0)
  else if x.op = 8 then (if 64 ≤ s.stk.length then 10 else 0)
  else if x.op = 9 ∨ x.op = 10 then (if s.stk.length = 0 then 18 else 0)
  else if 11 ≤ x.op ∧ x.op ≤ 14 then wrE s.q s.m x.k x.n
  else if x.op = 15 then (if x.t < 0 ∨ (len : Int) ≤ x.t then 3 else if x.t ≤ (s.pc : Int) then 17 else 0)
  else if x.op = 16 then 0 else 8
/-- The state but for the program counter behind an instruction without a fault. -/
def insD (inp : List Bool) (s : Mc) (x : In4) : Mc :=
  if 0 ≤ x.op ∧ x.op ≤ 5 then { s with acc := lgA x.op s.acc (bitV inp s x) }
  else if x.op = 6 ∨ x.op = 7 then { s with acc := edA x.op (bitV inp s x) (s.e.getD x.t.toNat false), e := s.e.set x.t.toNat (bitV inp s x) }
  else if x.op = 8 then { s with stk := s.stk ++ [s.acc] }
  else if x.op = 9 then { s with stk := s.stk.dropLast, acc := (s.stk.getLastD false && s.acc) }
  else if x.op = 10 then { s with stk := s.stk.dropLast, acc := (s.stk.getLastD false || s.acc) }
  else if 11 ≤ x.op ∧ x.op ≤ 14 then (if coW x.op s.acc then { s with q := wrQ s.q x.k x.n (coV x.op s.acc), m := wrM s.m x.k x.n (coV x.op s.acc) } else s)
  else if x.op = 16 then { s with hlt := true }
  else s
def insP (s : Mc) (x : In4) : Nat := if x.op = 15 ∧ s.acc = true then x.t.toNat else if x.op = 16 then s.pc else s.pc + 1
/-- One step: the machine behind it, and what Step returns. -/
def stp (code : List In4) (inp : List Bool) (s : Mc) : Mc × Bool × Int :=
  if s.hlt then (s, false, s.flt)
  else match code[s.pc]? with
    | none => ({ s with hlt := true, flt := 5 }, false, 5)
    | some x => if insE inp code.length s x ≠ 0 then ({ s with hlt := true, flt := insE inp code.length s x }, false, insE inp code.length s x)
      else ({ insD inp s x with pc := insP s x }, !(insD inp s x).hlt, 0)

/-- The cells of a slice read as a program. -/
def RdC (w : World) (A : Option Addr) (code : List In4) : Prop := ∀ (k : Nat) (x : In4), code[k]? = some x → ∃ ad, A = some ad ∧
  w.cell? (ad.add (k * 4)) = some (.int .i64 x.op) ∧ w.cell? (ad.add (k * 4 + 1)) = some (.int .i64 x.k) ∧ w.cell? (ad.add (k * 4 + 2)) = some (.int .i64 x.n) ∧ w.cell? (ad.add (k * 4 + 3)) = some (.int .i64 x.t)
theorem RdC.nx {w w' : World} {A : Option Addr} {code : List In4} (h : RdC w A code) (k : Nx w w') : RdC w' A code := fun i x hi => by
  obtain ⟨ad, e, h1, h2, h3, h4⟩ := h i x hi
  exact ⟨ad, e, k.cell h1, k.cell h2, k.cell h3, k.cell h4⟩
/-- A slice that holds something lies in another block than b. -/
def Off (b : Nat) (A : Option Addr) (n : Nat) : Prop := 0 < n → ∀ ad, A = some ad → ad.block ≠ b
/-- .. and apart from the blocks of F. -/
def OffF (F : Nat → Prop) (b : Nat) (A : Option Addr) (n : Nat) : Prop := Off b A n ∧ (0 < n → ∀ ad, A = some ad → ¬ F ad.block)
theorem RdC.mv {w w' : World} {b : Nat} {A : Option Addr} {code : List In4} (h : RdC w A code) (ho : Off b A code.length) (k : Mv b none w w') : RdC w' A code := fun i x hi => by
  have hl : i < code.length := (List.getElem?_eq_some_iff.1 hi).1
  obtain ⟨ad, e, h1, h2, h3, h4⟩ := h i x hi
  have hne := ho (by omega) ad e
  have hb : ∀ j, (ad.add j).block = ad.block := fun j => by unfold Addr.add; split <;> rfl
  exact ⟨ad, e, k.cell h1 (by rw [hb]; exact hne) (by simp), k.cell h2 (by rw [hb]; exact hne) (by simp), k.cell h3 (by rw [hb]; exact hne) (by simp), k.cell h4 (by rw [hb]; exact hne) (by simp)⟩
theorem Rd.mv {w w' : World} {b : Nat} {A : Option Addr} {xs : List Bool} (h : Rd w A xs) (ho : Off b A xs.length) (k : Mv b none w w') : Rd w' A xs := fun i x hi => by
  have hl : i < xs.length := (List.getElem?_eq_some_iff.1 hi).1
  obtain ⟨ad, e, h1⟩ := h i x hi
  have hne := ho (by omega) ad e
  have hb : ∀ j, (ad.add j).block = ad.block := fun j => by unfold Addr.add; split <;> rfl
  exact ⟨ad, e, k.cell h1 (by rw [hb]; exact hne) (by simp)⟩
/-- An image apart from block b. -/
def ImO (F : Nat → Prop) (w : World) (b : Nat) (A : Option Addr) (c : Nat) (xs : List Bool) : Prop := Im w A xs.length c xs ∧ OffF F b A xs.length
theorem ImO.mv {w w' : World} {b : Nat} {A : Option Addr} {c : Nat} {xs : List Bool} (h : ImO F w b A c xs) (k : Mv b none w w') : ImO F w' b A c xs := ⟨⟨h.1.1.mv h.2.1 k, h.1.2⟩, h.2⟩
theorem ImO.nx {w w' : World} {b : Nat} {A : Option Addr} {c : Nat} {xs : List Bool} (h : ImO F w b A c xs) (k : Nx w w') : ImO F w' b A c xs := h.mv (Mv.of_nx k b none)

/-- .. and no longer than its capacity. -/
def ImK (F : Nat → Prop) (w : World) (b : Nat) (A : Option Addr) (c : Nat) (xs : List Bool) : Prop := ImO F w b A c xs ∧ xs.length ≤ c ∧ ∀ k, F k → k < w.heap.size
theorem ImK.mv {w w' : World} {b : Nat} {A : Option Addr} {c : Nat} {xs : List Bool} (h : ImK F w b A c xs) (k : Mv b none w w') : ImK F w' b A c xs := ⟨h.1.mv k, h.2.1, fun j hj => Nat.lt_of_lt_of_le (h.2.2 j hj) k.size⟩
theorem ImK.nx {w w' : World} {b : Nat} {A : Option Addr} {c : Nat} {xs : List Bool} (h : ImK F w b A c xs) (k : Nx w w') : ImK F w' b A c xs := ⟨h.1.nx k, h.2.1, fun j hj => Nat.lt_of_lt_of_le (h.2.2 j hj) k.size⟩

/-- The ten cells of the reference's machine. -/
def rmc (Ac Ai Aq Am Ae As : Option Addr) (cc ci cq cm ce cs : Nat) (len : Nat) (inp : List Bool) (s : Mc) : List Value :=
  [.slice Ac len cc, .slice Ai inp.length ci, .slice Aq s.q.length cq, .slice Am s.m.length cm, .slice Ae s.e.length ce, .int .i64 (s.pc : Int), .bool s.acc, .slice As s.stk.length cs, .bool s.hlt, .int .i64 s.flt]
/-- The reference's machine at block b. -/
def RM (F : Nat → Prop) (w : World) (b : Nat) (code : List In4) (inp : List Bool) (s : Mc) : Prop :=
  ∃ Ac Ai Aq Am Ae As cc ci cq cm ce cs, Bx w b 48 (rmc Ac Ai Aq Am Ae As cc ci cq cm ce cs code.length inp s) ∧ (RdC w Ac code ∧ OffF F b Ac code.length) ∧
    ImO F w b Ai ci inp ∧ ImO F w b Aq cq s.q ∧ ImO F w b Am cm s.m ∧ ImO F w b Ae ce s.e ∧ ImK F w b As cs s.stk
theorem RM.nx {w w' : World} {b : Nat} {code : List In4} {inp : List Bool} {s : Mc} (h : RM F w b code inp s) (k : Nx w w') : RM F w' b code inp s := by
  obtain ⟨Ac, Ai, Aq, Am, Ae, As, cc, ci, cq, cm, ce, cs, hb, ⟨hc, ho⟩, h1, h2, h3, h4, h5⟩ := h
  exact ⟨Ac, Ai, Aq, Am, Ae, As, cc, ci, cq, cm, ce, cs, hb.nx k, ⟨hc.nx k, ho⟩, h1.nx k, h2.nx k, h3.nx k, h4.nx k, h5.nx k⟩
theorem RM.lo {w : World} {b : Nat} {code : List In4} {inp : List Bool} {s : Mc} (h : RM F w b code inp s) : ∀ k, F k → k < w.heap.size := by
  obtain ⟨Ac, Ai, Aq, Am, Ae, As, cc, ci, cq, cm, ce, cs, hb, _, _, _, _, _, h5⟩ := h; exact h5.2.2
theorem RM.lt {w : World} {b : Nat} {code : List In4} {inp : List Bool} {s : Mc} (h : RM F w b code inp s) : b < w.heap.size := by
  obtain ⟨Ac, Ai, Aq, Am, Ae, As, cc, ci, cq, cm, ce, cs, hb, _⟩ := h; exact hb.lt
end
section
open Go.RowKit
variable {F : Nat → Prop}

section
variable {w : World} {b : Nat} {code : List In4} {inp : List Bool} {s : Mc}
theorem RM.setAcc (h : RM F w b code inp s) (a : Bool) : RM F (w.setCell ⟨b, 6, none⟩ (.bool a)) b code inp { s with acc := a } := by
  obtain ⟨Ac, Ai, Aq, Am, Ae, As, cc, ci, cq, cm, ce, cs, hb, ⟨hc, ho⟩, h1, h2, h3, h4, h5⟩ := h
  have k : Mv b none w (w.setCell ⟨b, 6, none⟩ (.bool a)) := (Mv.refl b none w).set 6 _
  exact ⟨Ac, Ai, Aq, Am, Ae, As, cc, ci, cq, cm, ce, cs, hb.put 6 _, ⟨hc.mv ho.1 k, ho⟩, h1.mv k, h2.mv k, h3.mv k, h4.mv k, h5.mv k⟩
theorem RM.setPc (h : RM F w b code inp s) (a : Nat) : RM F (w.setCell ⟨b, 5, none⟩ (.int .i64 (a : Int))) b code inp { s with pc := a } := by
  obtain ⟨Ac, Ai, Aq, Am, Ae, As, cc, ci, cq, cm, ce, cs, hb, ⟨hc, ho⟩, h1, h2, h3, h4, h5⟩ := h
  have k : Mv b none w (w.setCell ⟨b, 5, none⟩ (.int .i64 (a : Int))) := (Mv.refl b none w).set 5 _
  exact ⟨Ac, Ai, Aq, Am, Ae, As, cc, ci, cq, cm, ce, cs, hb.put 5 _, ⟨hc.mv ho.1 k, ho⟩, h1.mv k, h2.mv k, h3.mv k, h4.mv k, h5.mv k⟩
theorem RM.setHlt (h : RM F w b code inp s) (a : Bool) : RM F (w.setCell ⟨b, 8, none⟩ (.bool a)) b code inp { s with hlt := a } := by
  obtain ⟨Ac, Ai, Aq, Am, Ae, As, cc, ci, cq, cm, ce, cs, hb, ⟨hc, ho⟩, h1, h2, h3, h4, h5⟩ := h
  have k : Mv b none w (w.setCell ⟨b, 8, none⟩ (.bool a)) := (Mv.refl b none w).set 8 _
  exact ⟨Ac, Ai, Aq, Am, Ae, As, cc, ci, cq, cm, ce, cs, hb.put 8 _, ⟨hc.mv ho.1 k, ho⟩, h1.mv k, h2.mv k, h3.mv k, h4.mv k, h5.mv k⟩
theorem RM.setFlt (h : RM F w b code inp s) (a : Int) : RM F (w.setCell ⟨b, 9, none⟩ (.int .i64 a)) b code inp { s with flt := a } := by
  obtain ⟨Ac, Ai, Aq, Am, Ae, As, cc, ci, cq, cm, ce, cs, hb, ⟨hc, ho⟩, h1, h2, h3, h4, h5⟩ := h
  have k : Mv b none w (w.setCell ⟨b, 9, none⟩ (.int .i64 a)) := (Mv.refl b none w).set 9 _
  exact ⟨Ac, Ai, Aq, Am, Ae, As, cc, ci, cq, cm, ce, cs, hb.put 9 _, ⟨hc.mv ho.1 k, ho⟩, h1.mv k, h2.mv k, h3.mv k, h4.mv k, h5.mv k⟩
theorem RM.setStk (h : RM F w b code inp s) (A : Option Addr) (c n : Nat) (xs : List Bool) (hn : xs.length = n) (hi : ImK F w b A c xs) : RM F (w.setCell ⟨b, 7, none⟩ (.slice A n c)) b code inp { s with stk := xs } := by
  subst hn
  obtain ⟨Ac, Ai, Aq, Am, Ae, As, cc, ci, cq, cm, ce, cs, hb, ⟨hc, ho⟩, h1, h2, h3, h4, h5⟩ := h
  have k : Mv b none w (w.setCell ⟨b, 7, none⟩ (.slice A xs.length c)) := (Mv.refl b none w).set 7 _
  exact ⟨Ac, Ai, Aq, Am, Ae, A, cc, ci, cq, cm, ce, c, hb.put 7 _, ⟨hc.mv ho.1 k, ho⟩, h1.mv k, h2.mv k, h3.mv k, h4.mv k, hi.mv k⟩
theorem RM.setE (h : RM F w b code inp s) (A : Option Addr) (c n : Nat) (xs : List Bool) (hn : xs.length = n) (hi : ImO F w b A c xs) : RM F (w.setCell ⟨b, 4, none⟩ (.slice A n c)) b code inp { s with e := xs } := by
  subst hn
  obtain ⟨Ac, Ai, Aq, Am, Ae, As, cc, ci, cq, cm, ce, cs, hb, ⟨hc, ho⟩, h1, h2, h3, h4, h5⟩ := h
  have k : Mv b none w (w.setCell ⟨b, 4, none⟩ (.slice A xs.length c)) := (Mv.refl b none w).set 4 _
  exact ⟨Ac, Ai, Aq, Am, A, As, cc, ci, cq, cm, c, cs, hb.put 4 _, ⟨hc.mv ho.1 k, ho⟩, h1.mv k, h2.mv k, h3.mv k, hi.mv k, h5.mv k⟩
end

def insV (x : In4) : Value := .agg #[.int .i64 x.op, .int .i64 x.k, .int .i64 x.n, .int .i64 x.t]

set_option maxHeartbeats 3200000 in
set_option maxRecDepth 100000 in
theorem refLogic_no (b : Nat) (code : List In4) (inp : List Bool) (s : Mc) (x : In4) (w : World) (h : RM F w b code inp s) (hE : bitE inp s x ≠ 0) :
    Calls Try.prog 58 #[.pointer (some ⟨b, 0, none⟩), .agg #[.int .i64 x.op, .int .i64 x.k, .int .i64 x.n, .int .i64 x.t]] w fun e w' => e = .returned (.int .i64 (bitE inp s x)) ∧ Nx w w' := by
  have hbl := h.lt
  obtain ⟨Ac, Ai, Aq, Am, Ae, As, cc, ci, cq, cm, ce, cs, hb, ⟨hc, ho⟩, h1, h2, h3, h4, h5⟩ := h
  have HRD := Lib.hid (fun (w' : World) (k : Nx w w') => refRead_any Ai inp.length ci Aq Am Ae s.q.length s.m.length s.e.length cq cm ce inp s.q s.m x.k x.n w' (h1.nx k).1 (h2.nx k).1 (h3.nx k).1)
  have HB := Lib.hid hb
  obtain ⟨V, hV⟩ : ∃ V, V = rdSV inp s.q s.m x.k x.n := ⟨_, rfl⟩
  obtain ⟨E, hE'⟩ : ∃ E, E = rdSE inp s.q s.m x.k x.n := ⟨_, rfl⟩
  have e0 : E ≠ 0 := by rw [hE']; exact hE
  have HE := Lib.hid (show bitE inp s x = E from hE'.symm)
  rw [← hV, ← hE'] at HRD
  clear hV hE' hE hb hc ho h1 h2 h3 h4 h5
  obtain ⟨op, k, n, t⟩ := x
  have HX := Lib.hid (bx_new w 53 [.int .i64 op, .int .i64 k, .int .i64 n, .int .i64 t])
  have NX := Lib.hid (Nx.one w (.cells #[.int .i64 op, .int .i64 k, .int .i64 n, .int .i64 t] 53))
  have HBW := Lib.hid (HB.out.nx NX.out)
  rw [HE.out]
  go_enter Try.func58, Try.ntmps58
  go_wp2_with fail
  generalize hW : w.alloc (.cells #[.int .i64 op, .int .i64 k, .int .i64 n, .int .i64 t] 53) = W at *
  generalize w.heap.size = g at *
  have HS := Lib.hid (show ∀ w', Nx W w' → w'.cell? ⟨b, 1, none⟩ = some (.slice Ai inp.length ci) ∧ w'.cell? ⟨b, 2, none⟩ = some (.slice Aq s.q.length cq) ∧ w'.cell? ⟨b, 3, none⟩ = some (.slice Am s.m.length cm) ∧ w'.cell? ⟨b, 4, none⟩ = some (.slice Ae s.e.length ce) ∧ w'.cell? ⟨g, 1, none⟩ = some (.int .i64 k) ∧ w'.cell? ⟨g, 2, none⟩ = some (.int .i64 n) from
    fun w' h => ⟨(HBW.out.nx h).cell 1 rfl, (HBW.out.nx h).cell 2 rfl, (HBW.out.nx h).cell 3 rfl, (HBW.out.nx h).cell 4 rfl, (HX.out.nx h).cell 1 rfl, (HX.out.nx h).cell 2 rfl⟩)
  obtain ⟨g1, g2, g3, g4, g5, g6⟩ := HS.out W (Nx.refl _)
  clear hW
  go_region_held3 (fun w' => w'.cell? ⟨b, 1, none⟩ = some (.slice Ai inp.length ci) ∧ w'.cell? ⟨b, 2, none⟩ = some (.slice Aq s.q.length cq) ∧ w'.cell? ⟨b, 3, none⟩ = some (.slice Am s.m.length cm) ∧ w'.cell? ⟨b, 4, none⟩ = some (.slice Ae s.e.length ce) ∧ w'.cell? ⟨g, 1, none⟩ = some (.int .i64 k) ∧ w'.cell? ⟨g, 2, none⟩ = some (.int .i64 n)) (first | go_keep | exact HS.out _ (Nx.refl _) | exact HS.out _ (Nx.refl _).drew | exact HS.out _ N2.out) ((first
    | (go_at_call 72; (with_reducible refine (HRD.out _ (NX.out.trans (by first | exact Nx.refl _ | exact (Nx.refl _).drew))).mono ?_); rintro e w2 ⟨rfl, hn2⟩; have N2 := Lib.hid (show Nx W w2 from (by first | exact hn2 | exact ((Nx.refl _).drew).trans hn2)); clear hn2)))
  clear g1 g2 g3 g4 g5 g6 HS HX HBW HB HRD
  go_wp2
  go_ret
  exact ⟨rfl, NX.out.trans N2.out⟩

set_option maxHeartbeats 3200000 in
set_option maxRecDepth 100000 in
theorem refLogic_ok (b : Nat) (code : List In4) (inp : List Bool) (s : Mc) (x : In4) (w : World) (h : RM F w b code inp s) (hE : bitE inp s x = 0) (hop : 0 ≤ x.op ∧ x.op ≤ 5) :
    Calls Try.prog 58 #[.pointer (some ⟨b, 0, none⟩), .agg #[.int .i64 x.op, .int .i64 x.k, .int .i64 x.n, .int .i64 x.t]] w fun e w' => e = .returned (.int .i64 0) ∧ RM F w' b code inp { s with acc := lgA x.op s.acc (bitV inp s x) } ∧ Mv b none w w' := by
  have hbl := h.lt
  have HRM := Lib.hid h
  obtain ⟨Ac, Ai, Aq, Am, Ae, As, cc, ci, cq, cm, ce, cs, hb, ⟨hc, ho⟩, h1, h2, h3, h4, h5⟩ := h
  have HRD := Lib.hid (fun (w' : World) (k : Nx w w') => refRead_any Ai inp.length ci Aq Am Ae s.q.length s.m.length s.e.length cq cm ce inp s.q s.m x.k x.n w' (h1.nx k).1 (h2.nx k).1 (h3.nx k).1)
  have HB := Lib.hid hb
  obtain ⟨V, hV⟩ : ∃ V, V = bitV inp s x := ⟨_, rfl⟩
  rw [show rdSV inp s.q s.m x.k x.n = V from hV.symm, show rdSE inp s.q s.m x.k x.n = 0 from hE] at HRD
  rw [← hV]
  clear hV hE hb hc ho h1 h2 h3 h4 h5
  obtain ⟨op, k, n, t⟩ := x
  simp only at hop HRD ⊢
  have HX := Lib.hid (bx_new w 53 [.int .i64 op, .int .i64 k, .int .i64 n, .int .i64 t])
  have NX := Lib.hid (Nx.one w (.cells #[.int .i64 op, .int .i64 k, .int .i64 n, .int .i64 t] 53))
  have HBW := Lib.hid (HB.out.nx NX.out)
  go_enter Try.func58, Try.ntmps58
  go_wp2_with fail
  generalize hW : w.alloc (.cells #[.int .i64 op, .int .i64 k, .int .i64 n, .int .i64 t] 53) = W at *
  generalize w.heap.size = g at *
  have HS := Lib.hid (show ∀ w', Nx W w' → w'.cell? ⟨b, 1, none⟩ = some (.slice Ai inp.length ci) ∧ w'.cell? ⟨b, 2, none⟩ = some (.slice Aq s.q.length cq) ∧ w'.cell? ⟨b, 3, none⟩ = some (.slice Am s.m.length cm) ∧ w'.cell? ⟨b, 4, none⟩ = some (.slice Ae s.e.length ce) ∧ w'.cell? ⟨g, 1, none⟩ = some (.int .i64 k) ∧ w'.cell? ⟨g, 2, none⟩ = some (.int .i64 n) from
    fun w' h => ⟨(HBW.out.nx h).cell 1 rfl, (HBW.out.nx h).cell 2 rfl, (HBW.out.nx h).cell 3 rfl, (HBW.out.nx h).cell 4 rfl, (HX.out.nx h).cell 1 rfl, (HX.out.nx h).cell 2 rfl⟩)
  obtain ⟨g1, g2, g3, g4, g5, g6⟩ := HS.out W (Nx.refl _)
  clear hW
  go_region_held3 (fun w' => w'.cell? ⟨b, 1, none⟩ = some (.slice Ai inp.length ci) ∧ w'.cell? ⟨b, 2, none⟩ = some (.slice Aq s.q.length cq) ∧ w'.cell? ⟨b, 3, none⟩ = some (.slice Am s.m.length cm) ∧ w'.cell? ⟨b, 4, none⟩ = some (.slice Ae s.e.length ce) ∧ w'.cell? ⟨g, 1, none⟩ = some (.int .i64 k) ∧ w'.cell? ⟨g, 2, none⟩ = some (.int .i64 n)) (first | go_keep | exact HS.out _ (Nx.refl _) | exact HS.out _ (Nx.refl _).drew | exact HS.out _ N2.out) ((first
    | (go_at_call 72; (with_reducible refine (HRD.out _ (NX.out.trans (by first | exact Nx.refl _ | exact (Nx.refl _).drew))).mono ?_); rintro e w2 ⟨rfl, hn2⟩; have N2 := Lib.hid (show Nx W w2 from (by first | exact hn2 | exact ((Nx.refl _).drew).trans hn2)); clear hn2)))
  have HB2 := Lib.hid (HBW.out.nx N2.out)
  have HX2 := Lib.hid (HX.out.nx N2.out)
  have R2 := Lib.hid (HRM.out.nx (NX.out.trans N2.out))
  obtain ⟨a0, ha0⟩ : ∃ a0, a0 = s.acc := ⟨_, rfl⟩
  have c6 : w2.cell? ⟨b, 6, none⟩ = some (.bool a0) := by rw [ha0]; exact HB2.out.cell 6 rfl
  have f6 := HB2.out.frozen 6
  have x0 := HX2.out.cell 0 rfl
  have SA := Lib.hid (fun (a : Bool) (ha : a = lgA op a0 V) => (show RM F (w2.setCell ⟨b, 6, none⟩ (.bool a)) b code inp { s with acc := lgA op s.acc V } by rw [ha, ha0]; exact R2.out.setAcc _))
  have SM := Lib.hid (fun (a : Bool) => (Mv.of_nx (NX.out.trans N2.out) b none).set 6 (.bool a))
  clear ha0 g1 g2 g3 g4 g5 g6 HS HX HBW HB HRD HB2 HX2 R2 HRM NX N2
  have h6 : op = 0 ∨ op = 1 ∨ op = 2 ∨ op = 3 ∨ op = 4 ∨ op = 5 := by omega
  clear hop
  rcases h6 with rfl | rfl | rfl | rfl | rfl | rfl
  all_goals
    cases a0
    all_goals
      cases V
      all_goals
        go_wp2
        go_ret
        exact ⟨rfl, SA.out _ (by decide), SM.out _⟩
end
section
open Go.RowKit
variable {F : Nat → Prop}

set_option maxHeartbeats 3200000 in
set_option maxRecDepth 100000 in
theorem refEdge_no (b : Nat) (code : List In4) (inp : List Bool) (s : Mc) (x : In4) (w : World) (h : RM F w b code inp s) (hE : bitE inp s x ≠ 0) :
    Calls Try.prog 59 #[.pointer (some ⟨b, 0, none⟩), .agg #[.int .i64 x.op, .int .i64 x.k, .int .i64 x.n, .int .i64 x.t]] w fun e w' => e = .returned (.int .i64 (bitE inp s x)) ∧ Nx w w' := by
  have hbl := h.lt
  obtain ⟨Ac, Ai, Aq, Am, Ae, As, cc, ci, cq, cm, ce, cs, hb, ⟨hc, ho⟩, h1, h2, h3, h4, h5⟩ := h
  have HRD := Lib.hid (fun (w' : World) (k : Nx w w') => refRead_any Ai inp.length ci Aq Am Ae s.q.length s.m.length s.e.length cq cm ce inp s.q s.m x.k x.n w' (h1.nx k).1 (h2.nx k).1 (h3.nx k).1)
  have HB := Lib.hid hb
  obtain ⟨V, hV⟩ : ∃ V, V = rdSV inp s.q s.m x.k x.n := ⟨_, rfl⟩
  obtain ⟨E, hE'⟩ : ∃ E, E = rdSE inp s.q s.m x.k x.n := ⟨_, rfl⟩
  have e0 : E ≠ 0 := by rw [hE']; exact hE
  have HE := Lib.hid (show bitE inp s x = E from hE'.symm)
  rw [← hV, ← hE'] at HRD
  clear hV hE' hE hb hc ho h1 h2 h3 h4 h5
  obtain ⟨op, k, n, t⟩ := x
  have HX := Lib.hid (bx_new w 53 [.int .i64 op, .int .i64 k, .int .i64 n, .int .i64 t])
  have NX := Lib.hid (Nx.one w (.cells #[.int .i64 op, .int .i64 k, .int .i64 n, .int .i64 t] 53))
  have HBW := Lib.hid (HB.out.nx NX.out)
  rw [HE.out]
  go_enter Try.func59, Try.ntmps59
  go_wp2_with fail
  generalize hW : w.alloc (.cells #[.int .i64 op, .int .i64 k, .int .i64 n, .int .i64 t] 53) = W at *
  generalize w.heap.size = g at *
  have HS := Lib.hid (show ∀ w', Nx W w' → w'.cell? ⟨b, 1, none⟩ = some (.slice Ai inp.length ci) ∧ w'.cell? ⟨b, 2, none⟩ = some (.slice Aq s.q.length cq) ∧ w'.cell? ⟨b, 3, none⟩ = some (.slice Am s.m.length cm) ∧ w'.cell? ⟨b, 4, none⟩ = some (.slice Ae s.e.length ce) ∧ w'.cell? ⟨g, 1, none⟩ = some (.int .i64 k) ∧ w'.cell? ⟨g, 2, none⟩ = some (.int .i64 n) from
    fun w' h => ⟨(HBW.out.nx h).cell 1 rfl, (HBW.out.nx h).cell 2 rfl, (HBW.out.nx h).cell 3 rfl, (HBW.out.nx h).cell 4 rfl, (HX.out.nx h).cell 1 rfl, (HX.out.nx h).cell 2 rfl⟩)
  obtain ⟨g1, g2, g3, g4, g5, g6⟩ := HS.out W (Nx.refl _)
  clear hW
  go_region_held3 (fun w' => w'.cell? ⟨b, 1, none⟩ = some (.slice Ai inp.length ci) ∧ w'.cell? ⟨b, 2, none⟩ = some (.slice Aq s.q.length cq) ∧ w'.cell? ⟨b, 3, none⟩ = some (.slice Am s.m.length cm) ∧ w'.cell? ⟨b, 4, none⟩ = some (.slice Ae s.e.length ce) ∧ w'.cell? ⟨g, 1, none⟩ = some (.int .i64 k) ∧ w'.cell? ⟨g, 2, none⟩ = some (.int .i64 n)) (first | go_keep | exact HS.out _ (Nx.refl _) | exact HS.out _ (Nx.refl _).drew | exact HS.out _ N2.out) ((first
    | (go_at_call 72; (with_reducible refine (HRD.out _ (NX.out.trans (by first | exact Nx.refl _ | exact (Nx.refl _).drew))).mono ?_); rintro e w2 ⟨rfl, hn2⟩; have N2 := Lib.hid (show Nx W w2 from (by first | exact hn2 | exact ((Nx.refl _).drew).trans hn2)); clear hn2)))
  clear g1 g2 g3 g4 g5 g6 HS HX HBW HB HRD
  go_wp2
  go_ret
  exact ⟨rfl, NX.out.trans N2.out⟩

set_option maxHeartbeats 3200000 in
set_option maxRecDepth 100000 in
theorem refEdge_range (b : Nat) (code : List In4) (inp : List Bool) (s : Mc) (x : In4) (w : World) (h : RM F w b code inp s) (hE : bitE inp s x = 0) (hop : x.t < 0 ∨ (¬ x.t < 0 ∧ (s.e.length : Int) ≤ x.t)) :
    Calls Try.prog 59 #[.pointer (some ⟨b, 0, none⟩), .agg #[.int .i64 x.op, .int .i64 x.k, .int .i64 x.n, .int .i64 x.t]] w fun e w' => e = .returned (.int .i64 3) ∧ Nx w w' := by
  have hbl := h.lt
  obtain ⟨Ac, Ai, Aq, Am, Ae, As, cc, ci, cq, cm, ce, cs, hb, ⟨hc, ho⟩, h1, h2, h3, h4, h5⟩ := h
  have HRD := Lib.hid (fun (w' : World) (k : Nx w w') => refRead_any Ai inp.length ci Aq Am Ae s.q.length s.m.length s.e.length cq cm ce inp s.q s.m x.k x.n w' (h1.nx k).1 (h2.nx k).1 (h3.nx k).1)
  have HB := Lib.hid hb
  obtain ⟨V, hV⟩ : ∃ V, V = bitV inp s x := ⟨_, rfl⟩
  rw [show rdSV inp s.q s.m x.k x.n = V from hV.symm, show rdSE inp s.q s.m x.k x.n = 0 from hE] at HRD
  clear hV hE hb hc ho h1 h2 h3 h4 h5
  obtain ⟨op, k, n, t⟩ := x
  simp only at hop HRD ⊢
  have HX := Lib.hid (bx_new w 53 [.int .i64 op, .int .i64 k, .int .i64 n, .int .i64 t])
  have NX := Lib.hid (Nx.one w (.cells #[.int .i64 op, .int .i64 k, .int .i64 n, .int .i64 t] 53))
  have HBW := Lib.hid (HB.out.nx NX.out)
  go_enter Try.func59, Try.ntmps59
  go_wp2_with fail
  generalize hW : w.alloc (.cells #[.int .i64 op, .int .i64 k, .int .i64 n, .int .i64 t] 53) = W at *
  generalize w.heap.size = g at *
  have HS := Lib.hid (show ∀ w', Nx W w' → w'.cell? ⟨b, 1, none⟩ = some (.slice Ai inp.length ci) ∧ w'.cell? ⟨b, 2, none⟩ = some (.slice Aq s.q.length cq) ∧ w'.cell? ⟨b, 3, none⟩ = some (.slice Am s.m.length cm) ∧ w'.cell? ⟨b, 4, none⟩ = some (.slice Ae s.e.length ce) ∧ w'.cell? ⟨g, 1, none⟩ = some (.int .i64 k) ∧ w'.cell? ⟨g, 2, none⟩ = some (.int .i64 n) from
    fun w' h => ⟨(HBW.out.nx h).cell 1 rfl, (HBW.out.nx h).cell 2 rfl, (HBW.out.nx h).cell 3 rfl, (HBW.out.nx h).cell 4 rfl, (HX.out.nx h).cell 1 rfl, (HX.out.nx h).cell 2 rfl⟩)
  obtain ⟨g1, g2, g3, g4, g5, g6⟩ := HS.out W (Nx.refl _)
  clear hW
  go_region_held3 (fun w' => w'.cell? ⟨b, 1, none⟩ = some (.slice Ai inp.length ci) ∧ w'.cell? ⟨b, 2, none⟩ = some (.slice Aq s.q.length cq) ∧ w'.cell? ⟨b, 3, none⟩ = some (.slice Am s.m.length cm) ∧ w'.cell? ⟨b, 4, none⟩ = some (.slice Ae s.e.length ce) ∧ w'.cell? ⟨g, 1, none⟩ = some (.int .i64 k) ∧ w'.cell? ⟨g, 2, none⟩ = some (.int .i64 n)) (first | go_keep | exact HS.out _ (Nx.refl _) | exact HS.out _ (Nx.refl _).drew | exact HS.out _ N2.out) ((first
    | (go_at_call 72; (with_reducible refine (HRD.out _ (NX.out.trans (by first | exact Nx.refl _ | exact (Nx.refl _).drew))).mono ?_); rintro e w2 ⟨rfl, hn2⟩; have N2 := Lib.hid (show Nx W w2 from (by first | exact hn2 | exact ((Nx.refl _).drew).trans hn2)); clear hn2)))
  have HB2 := Lib.hid (HBW.out.nx N2.out)
  have HX2 := Lib.hid (HX.out.nx N2.out)
  have c4 := HB2.out.cell 4 rfl
  have x3 := HX2.out.cell 3 rfl
  clear g1 g2 g3 g4 g5 g6 HS HX HBW HB HRD HB2 HX2
  generalize s.e.length = l at *
  rcases hop with ht | ⟨ht1, ht2⟩
  all_goals
    go_wp2
    go_quiet (fail)
    go_wp2
    go_ret
    exact ⟨rfl, by first | exact NX.out.trans N2.out | exact (NX.out.trans N2.out).drewN _⟩

set_option maxHeartbeats 3200000 in
set_option maxRecDepth 100000 in
theorem refEdge_ok (b : Nat) (code : List In4) (inp : List Bool) (s : Mc) (x : In4) (w : World) (h : RM F w b code inp s) (hE : bitE inp s x = 0) (hop : x.op = 6 ∨ x.op = 7) (p : Nat) (hp : x.t = (p : Int)) (hpl : p < s.e.length) (hle : s.e.length ≤ 1000000) :
    Calls Try.prog 59 #[.pointer (some ⟨b, 0, none⟩), .agg #[.int .i64 x.op, .int .i64 x.k, .int .i64 x.n, .int .i64 x.t]] w fun e w' => e = .returned (.int .i64 0) ∧ RM F w' b code inp { s with acc := edA x.op (bitV inp s x) (s.e.getD p false), e := s.e.set p (bitV inp s x) } ∧ Mv b none w w' := by
  have hbl := h.lt
  have HRM := Lib.hid h
  obtain ⟨Ac, Ai, Aq, Am, Ae, As, cc, ci, cq, cm, ce, cs, hb, ⟨hc, ho⟩, h1, h2, h3, h4, h5⟩ := h
  have HRD := Lib.hid (fun (w' : World) (k : Nx w w') => refRead_any Ai inp.length ci Aq Am Ae s.q.length s.m.length s.e.length cq cm ce inp s.q s.m x.k x.n w' (h1.nx k).1 (h2.nx k).1 (h3.nx k).1)
  have HB := Lib.hid hb
  obtain ⟨V, hV⟩ : ∃ V, V = bitV inp s x := ⟨_, rfl⟩
  rw [show rdSV inp s.q s.m x.k x.n = V from hV.symm, show rdSE inp s.q s.m x.k x.n = 0 from hE] at HRD
  rw [← hV]
  have H4 := Lib.hid h4
  clear hV hE hb hc ho h1 h2 h3 h4 h5
  obtain ⟨op, k, n, t⟩ := x
  simp only at hop HRD hp ⊢
  obtain ⟨was, hwas⟩ := at_some s.e p hpl
  obtain ⟨ad, hA, hcw0⟩ := H4.out.1.1 p was hwas
  subst hA
  have HCW := Lib.hid hcw0
  rw [getD_some hwas]
  clear hwas hcw0
  obtain ⟨aN, haN⟩ : ∃ aN, aN = edA op V was := ⟨_, rfl⟩
  have HAN := Lib.hid haN
  rw [← haN]
  clear haN
  have HP := Lib.hid hp
  have HPT := Lib.hid hp
  clear hp
  have HX := Lib.hid (bx_new w 53 [.int .i64 op, .int .i64 k, .int .i64 n, .int .i64 t])
  have NX := Lib.hid (Nx.one w (.cells #[.int .i64 op, .int .i64 k, .int .i64 n, .int .i64 t] 53))
  have HBW := Lib.hid (HB.out.nx NX.out)
  go_enter Try.func59, Try.ntmps59
  go_wp2_with fail
  generalize hW : w.alloc (.cells #[.int .i64 op, .int .i64 k, .int .i64 n, .int .i64 t] 53) = W at *
  have HGB := Lib.hid (show b < w.heap.size from hbl)
  generalize w.heap.size = g at *
  have HS := Lib.hid (show ∀ w', Nx W w' → w'.cell? ⟨b, 1, none⟩ = some (.slice Ai inp.length ci) ∧ w'.cell? ⟨b, 2, none⟩ = some (.slice Aq s.q.length cq) ∧ w'.cell? ⟨b, 3, none⟩ = some (.slice Am s.m.length cm) ∧ w'.cell? ⟨b, 4, none⟩ = some (.slice (some ad) s.e.length ce) ∧ w'.cell? ⟨g, 1, none⟩ = some (.int .i64 k) ∧ w'.cell? ⟨g, 2, none⟩ = some (.int .i64 n) from
    fun w' h => ⟨(HBW.out.nx h).cell 1 rfl, (HBW.out.nx h).cell 2 rfl, (HBW.out.nx h).cell 3 rfl, (HBW.out.nx h).cell 4 rfl, (HX.out.nx h).cell 1 rfl, (HX.out.nx h).cell 2 rfl⟩)
  obtain ⟨g1, g2, g3, g4, g5, g6⟩ := HS.out W (Nx.refl _)
  clear hW
  go_region_held3 (fun w' => w'.cell? ⟨b, 1, none⟩ = some (.slice Ai inp.length ci) ∧ w'.cell? ⟨b, 2, none⟩ = some (.slice Aq s.q.length cq) ∧ w'.cell? ⟨b, 3, none⟩ = some (.slice Am s.m.length cm) ∧ w'.cell? ⟨b, 4, none⟩ = some (.slice (some ad) s.e.length ce) ∧ w'.cell? ⟨g, 1, none⟩ = some (.int .i64 k) ∧ w'.cell? ⟨g, 2, none⟩ = some (.int .i64 n)) (first | go_keep | exact HS.out _ (Nx.refl _) | exact HS.out _ (Nx.refl _).drew | exact HS.out _ N2.out) ((first
    | (go_at_call 72; (with_reducible refine (HRD.out _ (NX.out.trans (by first | exact Nx.refl _ | exact (Nx.refl _).drew))).mono ?_); rintro e w2 ⟨rfl, hn2⟩; have N2 := Lib.hid (show Nx W w2 from (by first | exact hn2 | exact ((Nx.refl _).drew).trans hn2)); clear hn2)))
  have HB2 := Lib.hid (HBW.out.nx N2.out)
  have HX2 := Lib.hid (HX.out.nx N2.out)
  have R2 := Lib.hid (HRM.out.nx (NX.out.trans N2.out))
  have E2 := Lib.hid (H4.out.nx (NX.out.trans N2.out))
  have hcw := (NX.out.trans N2.out).cell HCW.out
  have c4 := HB2.out.cell 4 rfl
  have f4 := HB2.out.frozen 4
  have c6 := HB2.out.cell 6 rfl
  have f6 := HB2.out.frozen 6
  have x0 := HX2.out.cell 0 rfl
  have x3 := HX2.out.cell 3 rfl
  rw [show (Value.int .i64 t) = .int .i64 (p : Int) by rw [HP.out]] at x3
  have hb2 : b < w2.heap.size := R2.out.lt
  have t1 : ¬ (p : Int) < 0 := by omega
  have t2 : ¬ (s.e.length : Int) ≤ (p : Int) := by omega
  clear g1 g2 g3 g4 g5 g6 HS HX HBW HB HRD H4 HRM
  have hgb : g ≠ b := by intro e; have := HGB.out; omega
  generalize hl : s.e.length = l at *
  have HL := Lib.hid hl
  clear hl
  have XG := Lib.hid HX2.out
  have XB := Lib.hid HB2.out
  have HNX := Lib.hid (NX.out.trans N2.out)
  have HPL := Lib.hid hpl
  clear HX2 HB2 N2 NX HCW HP
  rcases hop with rfl | rfl
  all_goals
    cases V
    all_goals
      go_wp2
      go_quiet (fail)
      obtain ⟨n1, hn1⟩ : ∃ n1, n1 = nq := ⟨_, rfl⟩
      rw [← hn1]
      clear hn1
      go_wp2
      go_quiet (fail)
      go_wp2_with fail
      generalize n1 + nq = N at *
      have K3 := Lib.hid ((Nx.refl w2).drewN N)
      have R3 := Lib.hid (fun a => (R2.out.nx K3.out).setAcc a)
      have RA := Lib.hid (fun (a : Bool) (ha : a = aN) => (show RM F ((w2.drewN N).setCell ⟨b, 6, none⟩ (.bool a)) b code inp { s with acc := aN } by rw [← ha]; exact R3.out a))
      have M3 := Lib.hid (fun a => ((Mv.of_nx HNX.out b none).nx K3.out).set 6 (.bool a))
      have B3 := Lib.hid (fun a => (XB.out.nx K3.out).put 6 (.bool a))
      have G3 := Lib.hid (fun a => (XG.out.nx K3.out).far (b := b) (i := 6) (o := none) (by omega) (.bool a))
      have E3 := Lib.hid (fun a => E2.out.mv (((Mv.of_nx K3.out b none)).set 6 (.bool a)))
      have RD := Lib.hid (fun a w' (k : Nx ((w2.drewN N).setCell ⟨b, 6, none⟩ (.bool a)) w') => ((E3.out a).nx k).1.1)
      have HS := Lib.hid (show ∀ a w', Nx ((w2.drewN N).setCell ⟨b, 6, none⟩ (.bool a)) w' → w'.cell? ⟨b, 4, none⟩ = some (.slice (some ad) l ce) ∧ w'.cell? ⟨g, 3, none⟩ = some (.int .i64 (p : Int)) from
        fun a w' h => ⟨((B3.out a).nx h).cell 4 (by rw [← HL.out]; rfl), ((G3.out a).nx h).cell 3 (by rw [HPT.out]; rfl)⟩)
      have c4' := fun a => (HS.out a _ (Nx.refl _)).1
      have c3' := fun a => (HS.out a _ (Nx.refl _)).2
      go_region_with (go_at_call 73; (with_reducible refine (refSet_ok (some ad) s.e l ce p _ HL.out hpl hle _ (RD.out _ _ (by first | exact Nx.refl _ | exact (Nx.refl _).drew))).mono ?_); rintro e w5 ⟨g5, c5, rfl, ho5, hn5⟩; have N5 := Lib.hid ((Nx.refl _).drew.trans hn5); have d4 := (HS.out _ _ N5.out).1; have d3 := (HS.out _ _ N5.out).2; have q4 : w5.frozen? ⟨b, 4, none⟩ = false := ((B3.out _).nx N5.out).frozen 4; have O5 := Lib.hid ho5; clear ho5 hn5)
      all_goals
        go_wp2
        go_ret
        have hg5 := O5.out.base_le
        have hg6 : b < g5 := Nat.lt_of_lt_of_le (by simp [World.setCell]; exact hb2) hg5
        exact ⟨rfl, ((RA.out _ (by rw [HAN.out]; first | rfl | (cases was <;> rfl))).nx N5.out).setE _ _ _ _ (by rw [List.length_set]) ⟨O5.out.im rfl, ⟨fun _ ad e => by obtain rfl := Option.some.inj e; exact Nat.ne_of_gt hg6, fun _ ad e hk => by obtain rfl := Option.some.inj e; exact absurd (Nat.lt_of_lt_of_le (by simp [World.setCell]; exact R2.out.lo _ hk) hg5) (Nat.lt_irrefl _)⟩⟩, ((M3.out _).nx N5.out).set 4 _⟩
end
section
open Go.RowKit
variable {F : Nat → Prop}

theorem RM.setStk' {w : World} {b : Nat} {code : List In4} {inp : List Bool} {s : Mc} (h : RM F w b code inp s) {A : Option Addr} {c n : Nat} {xs : List Bool} {v : Bool} (hc : w.cell? ⟨b, 7, none⟩ = some (.slice A (n + 1) c)) (hs : s.stk = xs ++ [v]) (hn : xs.length = n) :
    RM F (w.setCell ⟨b, 7, none⟩ (.slice A n c)) b code inp { s with stk := xs } := by
  have h' := h
  obtain ⟨Ac, Ai, Aq, Am, Ae, As, cc, ci, cq, cm, ce, cs, hb, _, h1, h2, h3, h4, h5⟩ := h'
  have e := (hb.cell 7 rfl).symm.trans hc
  simp only [Option.some.injEq, Value.slice.injEq] at e
  obtain ⟨rfl, he, rfl⟩ := e
  have hl : s.stk.length = n + 1 := by rw [hs, List.length_append, hn]; rfl
  refine h.setStk _ _ _ xs hn ⟨⟨⟨fun k x hk => ?_, rfl, h5.1.1.2.2⟩, ⟨fun h0 ad e => h5.1.2.1 (by omega) ad e, fun h0 ad e => h5.1.2.2 (by omega) ad e⟩⟩, by have := h5.2.1; omega, h5.2.2⟩
  have hk2 : k < xs.length := (List.getElem?_eq_some_iff.1 hk).1
  exact h5.1.1.1 k x (by rw [hs, List.getElem?_append_left hk2]; exact hk)

set_option maxHeartbeats 3200000 in
set_option maxRecDepth 100000 in
theorem refVPop_none (b : Nat) (code : List In4) (inp : List Bool) (s : Mc) (x : In4) (w : World) (h : RM F w b code inp s) (hs : s.stk.length = 0) :
    Calls Try.prog 60 #[.pointer (some ⟨b, 0, none⟩), .agg #[.int .i64 x.op, .int .i64 x.k, .int .i64 x.n, .int .i64 x.t]] w fun e w' => e = .returned (.int .i64 18) ∧ Nx w w' := by
  have hbl := h.lt
  obtain ⟨Ac, Ai, Aq, Am, Ae, As, cc, ci, cq, cm, ce, cs, hb, _⟩ := h
  have c7 : w.cell? ⟨b, 7, none⟩ = some (.slice As 0 cs) := by rw [← hs]; exact hb.cell 7 rfl
  clear hb hs
  obtain ⟨op, k, n, t⟩ := x
  go_enter Try.func60, Try.ntmps60
  go_wp2
  go_ret
  exact ⟨rfl, Nx.one _ _⟩

set_option maxHeartbeats 3200000 in
set_option maxRecDepth 100000 in
theorem refVPop_ok (b : Nat) (code : List In4) (inp : List Bool) (s : Mc) (x : In4) (hop : x.op = 9 ∨ x.op = 10) (xs : List Bool) (v : Bool) (hs : s.stk = xs ++ [v]) (hl : xs.length ≤ 1000000) (w : World) (h : RM F w b code inp s) :
    Calls Try.prog 60 #[.pointer (some ⟨b, 0, none⟩), .agg #[.int .i64 x.op, .int .i64 x.k, .int .i64 x.n, .int .i64 x.t]] w fun e w' => e = .returned (.int .i64 0) ∧ RM F w' b code inp { s with stk := xs, acc := if x.op = 9 then (v && s.acc) else (v || s.acc) } ∧ Mv b none w w' := by
  have hbl := h.lt
  have HRM := Lib.hid h
  obtain ⟨Ac, Ai, Aq, Am, Ae, As, cc, ci, cq, cm, ce, cs, hb, _, _, _, _, _, h5⟩ := h
  obtain ⟨l, hn⟩ : ∃ l, xs.length = l := ⟨_, rfl⟩
  have hsl : s.stk.length = l + 1 := by rw [hs, List.length_append, hn]; rfl
  have HN := Lib.hid hn
  have HS := Lib.hid hs
  obtain ⟨ad, hA, hcv⟩ := h5.1.1.1 l v (by rw [hs, List.getElem?_append_right (by omega), hn, Nat.sub_self]; rfl)
  subst hA
  have c7 : w.cell? ⟨b, 7, none⟩ = some (.slice (some ad) (l + 1) cs) := by rw [← hsl]; exact hb.cell 7 rfl
  have hcap : l ≤ cs := by have := h5.2.1; omega
  rw [hn] at hl
  obtain ⟨a0, ha0⟩ : ∃ a0, a0 = s.acc := ⟨_, rfl⟩
  have c6 : w.cell? ⟨b, 6, none⟩ = some (.bool a0) := by rw [ha0]; exact hb.cell 6 rfl
  have f6 := hb.frozen 6
  have f7 := hb.frozen 7
  rw [← ha0]
  clear hb h5 hs hn hsl ha0
  obtain ⟨op, k, n, t⟩ := x
  simp only at hop ⊢
  have NX := Lib.hid (Nx.one w (.cells #[.int .i64 op, .int .i64 k, .int .i64 n, .int .i64 t] 53))
  have HX := Lib.hid (bx_new w 53 [.int .i64 op, .int .i64 k, .int .i64 n, .int .i64 t])
  have x0 := HX.out.cell 0 rfl
  have hcv' := NX.out.cell hcv
  have i1 : (l : Int) < (l : Int) + 1 := by omega
  have hw : IntKind.i64.wrap (l : Int) = (l : Int) := IntWalk.i64_in _ ⟨by omega, by omega⟩
  have HF := Lib.hid (fun (N : Nat) (r : Bool) => (show RM F ((((w.alloc (.cells #[.int .i64 op, .int .i64 k, .int .i64 n, .int .i64 t] 53)).drewN N).setCell ⟨b, 7, none⟩ (.slice (some ad) l cs)).setCell ⟨b, 6, none⟩ (.bool r)) b code inp { s with stk := xs, acc := r } ∧ Mv b none w ((((w.alloc (.cells #[.int .i64 op, .int .i64 k, .int .i64 n, .int .i64 t] 53)).drewN N).setCell ⟨b, 7, none⟩ (.slice (some ad) l cs)).setCell ⟨b, 6, none⟩ (.bool r)) from
    ⟨((HRM.out.nx (NX.out.drewN N)).setStk' ((NX.out.drewN N).cell c7) HS.out HN.out).setAcc r, (((Mv.of_nx (NX.out.drewN N) b none).set 7 _).set 6 _)⟩))
  go_enter Try.func60, Try.ntmps60
  go_wp2
  go_quiet (fail)
  go_wp2
  go_region
  rcases hop with rfl | rfl
  all_goals
    cases v
    all_goals
      cases a0
      all_goals
        go_wp2
        go_ret
        exact ⟨rfl, HF.out _ _⟩
end
section
open Go.RowKit
variable {F : Nat → Prop}

/-- The write of a coil. -/
def coE (s : Mc) (x : In4) : Int := wrE s.q s.m x.k x.n
theorem ImB.imO {w : World} {B b : Nat} {A : Option Addr} {m c : Nat} {x : List Bool} (h : ImB w B A m c x) (hb : b < B) (hF : ∀ k, F k → k < B) (hm : x.length = m) : ImO F w b A c x := by
  subst hm
  exact ⟨h.1, fun h0 ad e => (by have := h.2 h0 ad e; omega), fun h0 ad e hk => by have := h.2 h0 ad e; have := hF _ hk; omega⟩
theorem ImB.imO' {w : World} {B b : Nat} {A : Option Addr} {m c : Nat} {x : List Bool} (h : ImB w B A m c x) (hb : b < B) (hF : ∀ k, F k → k < B) : ImO F w b A c x := by
  have e := h.1.2.1
  subst e
  exact ⟨h.1, fun h0 ad e => (by have := h.2 h0 ad e; omega), fun h0 ad e hk => by have := h.2 h0 ad e; have := hF _ hk; omega⟩
theorem ImB.sets {w w' : World} {B g : Nat} {A : Option Addr} {m c : Nat} {x : List Bool} (h : ImB w B A m c x) (hg : g < B) (k : Mv g none w w') : ImB w' B A m c x := by
  have e := h.1.2.1
  subst e
  exact ⟨((h.imO' (F := fun _ => False) hg (fun _ h => h.elim)).mv k).1, h.2⟩
theorem wrQ_len' (x : List Bool) (k n : Int) (v : Bool) : (wrQ x k n v).length = x.length := by unfold wrQ; split <;> simp
theorem wrM_len' (x : List Bool) (k n : Int) (v : Bool) : (wrM x k n v).length = x.length := by unfold wrM; split <;> simp
theorem RM.setS {w : World} {b : Nat} {code : List In4} {inp : List Bool} {s : Mc} (h : RM F w b code inp s) {A1 A2 A3 : Option Addr} {n1 n2 n3 c1 c2 c3 : Nat} {x1 x2 x3 : List Bool} (l1 : x1.length = n1) (l2 : x2.length = n2) (l3 : x3.length = n3) (h1 : ImO F w b A1 c1 x1) (h2 : ImO F w b A2 c2 x2) (h3 : ImO F w b A3 c3 x3) :
    RM F (((w.setCell ⟨b, 2, none⟩ (.slice A1 n1 c1)).setCell ⟨b, 3, none⟩ (.slice A2 n2 c2)).setCell ⟨b, 4, none⟩ (.slice A3 n3 c3)) b code inp { s with q := x1, m := x2, e := x3 } ∧
    Mv b none w (((w.setCell ⟨b, 2, none⟩ (.slice A1 n1 c1)).setCell ⟨b, 3, none⟩ (.slice A2 n2 c2)).setCell ⟨b, 4, none⟩ (.slice A3 n3 c3)) := by
  subst l1 l2 l3
  obtain ⟨Ac, Ai, Aq, Am, Ae, As, cc, ci, cq, cm, ce, cs, hb, ⟨hc, ho⟩, i1, _, _, _, i5⟩ := h
  have k := (((Mv.refl b none w).set 2 (.slice A1 x1.length c1)).set 3 (.slice A2 x2.length c2)).set 4 (.slice A3 x3.length c3)
  exact ⟨⟨Ac, Ai, A1, A2, A3, As, cc, ci, c1, c2, c3, cs, ((hb.put 2 _).put 3 _).put 4 _, ⟨hc.mv ho.1 k, ho⟩, i1.mv k, h1.mv k, h2.mv k, h3.mv k, i5.mv k⟩, k⟩
def CoP (s : Mc) (k n : Int) (v : Bool) (w : World) (e : Ending) (w2 : World) : Prop :=
  ∃ A1 A2 A3 c1 c2 c3, e = .returned (.tuple #[.agg #[.slice A1 s.q.length c1, .slice A2 s.m.length c2, .slice A3 s.e.length c3], .int .i64 0]) ∧
    ImB w2 w.heap.size A1 s.q.length c1 (wrQ s.q k n v) ∧ ImB w2 w.heap.size A2 s.m.length c2 (wrM s.m k n v) ∧ ImB w2 w.heap.size A3 s.e.length c3 s.e ∧ Nx w w2
theorem coil_ok {s : Mc} {k n : Int} {v : Bool} {w w2 : World} {e : Ending} (h : ∃ r, e = .returned (.tuple #[r, .int .i64 0]) ∧ ImSB w2 w.heap.size r (wrQ s.q k n v) (wrM s.m k n v) s.e) (hn : Nx w w2) : CoP s k n v w e w2 := by
  obtain ⟨r, rfl, A1, A2, A3, c1, c2, c3, rfl, h1, h2, h3⟩ := h
  rw [wrQ_len'] at h1
  rw [wrM_len'] at h2
  exact ⟨A1, A2, A3, c1, c2, c3, by rw [wrQ_len', wrM_len'], h1, h2, h3, hn⟩
end
end Go.Proofs.Ytmijfipggggdfaa
