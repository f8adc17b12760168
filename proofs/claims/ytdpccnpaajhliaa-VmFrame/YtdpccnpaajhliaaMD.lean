/- Words for the accumulator machine: what an instruction does to a machine's state, and how the reference's machine lies in memory. No condition. What the reference's machine does for ld to orn. What the reference's machine does for rise and fall. What the reference's machine does for andp and orp. What the reference's machine does for st, stn, set and rst. What the reference's machine does for one instruction: the dispatch. What the reference's machine does for push. What the reference's machine does for opcode 11, where the write fails. What the reference's machine does for opcode 12, where the write fails. What the reference's machine does for opcode 13, where the write fails. What the reference's machine does for opcode 14, where the write fails. What the reference's machine does for one instruction: the other opcodes. What the reference's machine does for one instruction, all opcodes. What Step of the reference's machine does. Plain facts on the machine: sizes stay, the program counter grows, every run ends. What Run of the reference's machine does, New's contract given. append of a program onto a new empty slice, as one operation of a region; New of the reference's machine; Run with it. New of the reference's machine; Run with it. Conditions: as each theorem states them. -/
import Derived.Test.YtdpccnpaajhliaaMC
import Derived.Test.YtdpccnpaajhliaaMB
import Derived.Deep.RegionHeld3
import Derived.Deep.QuietTactic
import Derived.BigQuiet
import Derived.StillTailTactics
import Derived.Deep.RegionWith
import Derived.Deep.DeepCutAuto
import Derived.Test.YtdpccnpaajhliaaMA
import Derived.Deep.CutBlock
namespace Go.Proofs.Ytdpccnpaajhliaa
section
open Go.RowKit
variable {F : Nat → Prop}

/-- An instruction: opcode, space and number of the address, operand. -/
structure In4 where
  op : Int
  k : Int
  n : Int
  t : Int
/-- What of a machine turns. -/
structure Mc where
  q : List Bool
  m : List Bool
  e : List Bool
  pc : Nat
  acc : Bool
  stk : List Bool
  hlt : Bool
  flt : Int

def bitV (inp : List Bool) (s : Mc) (x : In4) : Bool := rdSV inp s.q s.m x.k x.n
def bitE (inp : List Bool) (s : Mc) (x : In4) : Int := rdSE inp s.q s.m x.k x.n
/-- The bit, or its negation for an odd opcode. -/
def bitN (op : Int) (v : Bool) : Bool := if op % 2 = 1 then !v else v
def lgA (op : Int) (acc v : Bool) : Bool := if op / 2 = 0 then bitN op v else if op / 2 = 1 then (acc && bitN op v) else (acc || bitN op v)
def edA (op : Int) (v was : Bool) : Bool := if op = 6 then (v && !was) else (!v && was)
def coV (op : Int) (acc : Bool) : Bool := if op = 12 then !acc else if op = 14 then false else acc
def coW (op : Int) (acc : Bool) : Bool := if op = 13 ∨ op = 14 then acc else true
/-- The fault of an instruction, 0 for none, in a program of len instructions. -/
def insE (inp : List Bool) (len : Nat) (s : Mc) (x : In4) : Int :=
  if 0 ≤ x.op ∧ x.op ≤ 5 then bitE inp s x
  else if x.op = 6 ∨ x.op = 7 then (if bitE inp s x ≠ 0 then bitE inp s x else if x.t < 0 ∨ (s.e.length : Int) ≤ x.t then 3 else 0)
  else if x.op = 8 then (if 64 ≤ s.stk.length then 10 else 0)
  else if x.op = 9 ∨ x.op = 10 then (if s.stk.length = 0 then 18 else 0)
  else if 11 ≤ x.op ∧ x.op ≤ 14 then wrE s.q s.m x.k x.n
  else if x.op = 15 then (if x.t < 0 ∨ (len : Int) ≤ x.t then 3 else if x.t ≤ (s.pc : Int) then 17 else 0)
  else if x.op = 16 then 0 else 8
/-- The state but for the program counter behind an instruction without a fault. -/
def insD (inp : List Bool) (s : Mc) (x : In4) : Mc :=
  if 0 ≤ x.op ∧ x.op ≤ 5 then { s with acc := lgA x.op s.acc (bitV inp s x) }
  else if x.op = 6 ∨ x.op = 7 then { s with acc := edA x.op (bitV inp s x) (s.e.getD x.t.toNat false), e := s.e.set x.t.toNat (bitV inp s x) }
  else if x.op = 8 then { s with stk := s.stk ++ [s.acc] }
  else if x.op = 9 then { s with stk := s.stk.dropLast, acc := (s.stk.getLastD false && s.acc) }
  else if x.op = 10 then { s with stk := s.stk.dropLast, acc := (s.stk.getLastD false || s.acc) }
  else if 11 ≤ x.op ∧ x.op ≤ 14 then (if coW x.op s.acc then { s with q := wrQ s.q x.k x.n (coV x.op s.acc), m := wrM s.m x.k x.n (coV x.op s.acc) } else s)
  else if x.op = 16 then { s with hlt := true }
  else s
def insP (s : Mc) (x : In4) : Nat := if x.op = 15 ∧ s.acc = true then x.t.toNat else if x.op = 16 then s.pc else s.pc + 1
/-- One step: the machine behind it, and what Step returns. -/
def stp (code : List In4) (inp : List Bool) (s : Mc) : Mc × Bool × Int :=
  if s.hlt then (s, false, s.flt)
  else match code[s.pc]? with
    | none => ({ s with hlt := true, flt := 5 }, false, 5)
    | some x => if insE inp code.length s x ≠ 0 then ({ s with hlt := true, flt := insE inp code.length s x }, false, insE inp code.length s x)
      else ({ insD inp s x with pc := insP s x }, !(insD inp s x).hlt, 0)

/-- The cells of a slice read as a program. -/
def RdC (w : World) (A : Option Addr) (code : List In4) : Prop := ∀ (k : Nat) (x : In4), code[k]? = some x → ∃ ad, A = some ad ∧
  w.cell? (ad.add (k * 4)) = some (.int .i64 x.op) ∧ w.cell? (ad.add (k * 4 + 1)) = some (.int .i64 x.k) ∧ w.cell? (ad.add (k * 4 + 2)) = some (.int .i64 x.n) ∧ w.cell? (ad.add (k * 4 + 3)) = some (.int .i64 x.t)
theorem RdC.nx {w w' : World} {A : Option Addr} {code : List In4} (h : RdC w A code) (k : Nx w w') : RdC w' A code := fun i x hi => by
  obtain ⟨ad, e, h1, h2, h3, h4⟩ := h i x hi
  exact ⟨ad, e, k.cell h1, k.cell h2, k.cell h3, k.cell h4⟩
/-- A slice that holds something lies in another block than b. -/
def Off (b : Nat) (A : Option Addr) (n : Nat) : Prop := 0 < n → ∀ ad, A = some ad → ad.block ≠ b
/-- .. and apart from the blocks of F. -/
def OffF (F : Nat → Prop) (b : Nat) (A : Option Addr) (n : Nat) : Prop := Off b A n ∧ (0 < n → ∀ ad, A = some ad → ¬ F ad.block)
theorem RdC.mv {w w' : World} {b : Nat} {A : Option Addr} {code : List In4} (h : RdC w A code) (ho : Off b A code.length) (k : Mv b none w w') : RdC w' A code := fun i x hi => by
  have hl : i < code.length := (List.getElem?_eq_some_iff.1 hi).1
  obtain ⟨ad, e, h1, h2, h3, h4⟩ := h i x hi
  have hne := ho (by omega) ad e
  have hb : ∀ j, (ad.add j).block = ad.block := fun j => by unfold Addr.add; split <;> rfl
  exact ⟨ad, e, k.cell h1 (by rw [hb]; exact hne) (by simp), k.cell h2 (by rw [hb]; exact hne) (by simp), k.cell h3 (by rw [hb]; exact hne) (by simp), k.cell h4 (by rw [hb]; exact hne) (by simp)⟩
theorem Rd.mv {w w' : World} {b : Nat} {A : Option Addr} {xs : List Bool} (h : Rd w A xs) (ho : Off b A xs.length) (k : Mv b none w w') : Rd w' A xs := fun i x hi => by
  have hl : i < xs.length := (List.getElem?_eq_some_iff.1 hi).1
  obtain ⟨ad, e, h1⟩ := h i x hi
  have hne := ho (by omega) ad e
  have hb : ∀ j, (ad.add j).block = ad.block := fun j => by unfold Addr.add; split <;> rfl
  exact ⟨ad, e, k.cell h1 (by rw [hb]; exact hne) (by simp)⟩
/-- An image apart from block b. -/
def ImO (F : Nat → Prop) (w : World) (b : Nat) (A : Option Addr) (c : Nat) (xs : List Bool) : Prop := Im w A xs.length c xs ∧ OffF F b A xs.length
theorem ImO.mv {w w' : World} {b : Nat} {A : Option Addr} {c : Nat} {xs : List Bool} (h : ImO F w b A c xs) (k : Mv b none w w') : ImO F w' b A c xs := ⟨⟨h.1.1.mv h.2.1 k, h.1.2⟩, h.2⟩
theorem ImO.nx {w w' : World} {b : Nat} {A : Option Addr} {c : Nat} {xs : List Bool} (h : ImO F w b A c xs) (k : Nx w w') : ImO F w' b A c xs := h.mv (Mv.of_nx k b none)

/-- .. and no longer than its capacity. -/
def ImK (F : Nat → Prop) (w : World) (b : Nat) (A : Option Addr) (c : Nat) (xs : List Bool) : Prop := ImO F w b A c xs ∧ xs.length ≤ c ∧ ∀ k, F k → k < w.heap.size
theorem ImK.mv {w w' : World} {b : Nat} {A : Option Addr} {c : Nat} {xs : List Bool} (h : ImK F w b A c xs) (k : Mv b none w w') : ImK F w' b A c xs := ⟨h.1.mv k, h.2.1, fun j hj => Nat.lt_of_lt_of_le (h.2.2 j hj) k.size⟩
theorem ImK.nx {w w' : World} {b : Nat} {A : Option Addr} {c : Nat} {xs : List Bool} (h : ImK F w b A c xs) (k : Nx w w') : ImK F w' b A c xs := ⟨h.1.nx k, h.2.1, fun j hj => Nat.lt_of_lt_of_le (h.2.2 j hj) k.size⟩

/-- The ten cells of the reference's machine. -/
def rmc (Ac Ai Aq Am Ae As : Option Addr) (cc ci cq cm ce cs : Nat) (len : Nat) (inp : List Bool) (s : Mc) : List Value :=
  [.slice Ac len cc, .slice Ai inp.length ci, .slice Aq s.q.length cq, .slice Am s.m.length cm, .slice Ae s.e.length ce, .int .i64 (s.pc : Int), .bool s.acc, .slice As s.stk.length cs, .bool s.hlt, .int .i64 s.flt]
end
section
open Go.RowKit
variable {F : Nat → Prop}

section
variable {w : World} {b : Nat} {code : List In4} {inp : List Bool} {s : Mc}
end

def insV (x : In4) : Value := .agg #[.int .i64 x.op, .int .i64 x.k, .int .i64 x.n, .int .i64 x.t]
end
section
open Go.RowKit
variable {F : Nat → Prop}
end
section
open Go.RowKit
variable {F : Nat → Prop}
end
section
open Go.RowKit
variable {F : Nat → Prop}

/-- The write of a coil. -/
def coE (s : Mc) (x : In4) : Int := wrE s.q s.m x.k x.n
theorem ImB.imO {w : World} {B b : Nat} {A : Option Addr} {m c : Nat} {x : List Bool} (h : ImB w B A m c x) (hb : b < B) (hF : ∀ k, F k → k < B) (hm : x.length = m) : ImO F w b A c x := by
  subst hm
  exact ⟨h.1, fun h0 ad e => (by have := h.2 h0 ad e; omega), fun h0 ad e hk => by have := h.2 h0 ad e; have := hF _ hk; omega⟩
theorem ImB.imO' {w : World} {B b : Nat} {A : Option Addr} {m c : Nat} {x : List Bool} (h : ImB w B A m c x) (hb : b < B) (hF : ∀ k, F k → k < B) : ImO F w b A c x := by
  have e := h.1.2.1
  subst e
  exact ⟨h.1, fun h0 ad e => (by have := h.2 h0 ad e; omega), fun h0 ad e hk => by have := h.2 h0 ad e; have := hF _ hk; omega⟩
theorem ImB.sets {w w' : World} {B g : Nat} {A : Option Addr} {m c : Nat} {x : List Bool} (h : ImB w B A m c x) (hg : g < B) (k : Mv g none w w') : ImB w' B A m c x := by
  have e := h.1.2.1
  subst e
  exact ⟨((h.imO' (F := fun _ => False) hg (fun _ h => h.elim)).mv k).1, h.2⟩
theorem wrQ_len' (x : List Bool) (k n : Int) (v : Bool) : (wrQ x k n v).length = x.length := by unfold wrQ; split <;> simp
theorem wrM_len' (x : List Bool) (k n : Int) (v : Bool) : (wrM x k n v).length = x.length := by unfold wrM; split <;> simp
def CoP (s : Mc) (k n : Int) (v : Bool) (w : World) (e : Ending) (w2 : World) : Prop :=
  ∃ A1 A2 A3 c1 c2 c3, e = .returned (.tuple #[.agg #[.slice A1 s.q.length c1, .slice A2 s.m.length c2, .slice A3 s.e.length c3], .int .i64 0]) ∧
    ImB w2 w.heap.size A1 s.q.length c1 (wrQ s.q k n v) ∧ ImB w2 w.heap.size A2 s.m.length c2 (wrM s.m k n v) ∧ ImB w2 w.heap.size A3 s.e.length c3 s.e ∧ Nx w w2
theorem coil_ok {s : Mc} {k n : Int} {v : Bool} {w w2 : World} {e : Ending} (h : ∃ r, e = .returned (.tuple #[r, .int .i64 0]) ∧ ImSB w2 w.heap.size r (wrQ s.q k n v) (wrM s.m k n v) s.e) (hn : Nx w w2) : CoP s k n v w e w2 := by
  obtain ⟨r, rfl, A1, A2, A3, c1, c2, c3, rfl, h1, h2, h3⟩ := h
  rw [wrQ_len'] at h1
  rw [wrM_len'] at h2
  exact ⟨A1, A2, A3, c1, c2, c3, by rw [wrQ_len', wrM_len'], h1, h2, h3, hn⟩
end
section
open Go.RowKit
variable {F : Nat → Prop}

section
variable {w : World} {b : Nat} {code : List In4} {inp : List Bool} {s : Mc}
end
end
section
open Go.RowKit
variable {F : Nat → Prop}

theorem bools_app (xs : List Bool) (v : Bool) : bools xs ++ [.bool v] = bools (xs ++ [v]) := by simp [bools]
def seeP (j : Nat) : List Nat := match j with
  | 3 => [2]
  | 4 => [2, 3]
  | 5 => [2, 3, 4]
  | 6 => [1, 2, 3, 4, 5]
  | 8 => [7]
  | 9 => [7, 8]
  | 10 => [7, 8, 9]
  | 11 => [7, 8, 9, 10]
  | 12 => [1, 2, 3, 4, 5, 6, 7, 8, 9, 10, 11]
  | 13 => [0, 1, 2, 3, 4, 5, 6, 7, 8, 9, 10, 11, 12]
  | 14 => [0, 1, 2, 3, 4, 5, 6, 7, 8, 9, 10, 11, 12, 13]
  | 15 => [0, 1, 2, 3, 4, 5, 6, 7, 8, 9, 10, 11, 12, 13, 14]
  | _ => []
def psiP (b B l cs : Nat) (As : Option Addr) (stk : List Bool) (acc : Bool) (j : Nat) (v : Value) (w : World) : Prop := match j with
  | 0 => v = .pointer (some ⟨b, 0, none⟩)
  | 1 => ∃ g, v = .slice (some ⟨g, 0, none⟩) 0 0 ∧ w.ownsRow B 4 1 v 0 []
  | 2 => v = .pointer (some ⟨b, 0, none⟩)
  | 3 => v = .pointer (some ⟨b, 0, none⟩)
  | 4 => v = .pointer (some ⟨b, 7, none⟩)
  | 5 => v = .slice As l cs
  | 6 => Ow w B v stk
  | 7 => v = .pointer (some ⟨b, 0, none⟩)
  | 8 => v = .pointer (some ⟨b, 0, none⟩)
  | 9 => v = .pointer (some ⟨b, 6, none⟩)
  | 10 => v = .bool acc
  | 11 => ∃ g, v = .slice (some ⟨g, 0, none⟩) 1 1 ∧ w.cell? ⟨g, 0, none⟩ = some (.bool acc)
  | _ => False
end
section
open Go.RowKit
variable {F : Nat → Prop}
end
section
open Go.RowKit
variable {F : Nat → Prop}
end
section
open Go.RowKit
variable {F : Nat → Prop}
end
section
open Go.RowKit
variable {F : Nat → Prop}
end
section
open Go.RowKit
variable {F : Nat → Prop}
end
section
open Go.RowKit
variable {F : Nat → Prop}

/-- A machine of sizes that the walks bear. -/
def Fit (s : Mc) : Prop := (s.q.length ≤ 1000000 ∧ s.m.length ≤ 1000000 ∧ s.e.length ≤ 1000000) ∧ s.stk.length ≤ 64 ∧ s.pc ≤ 1000000
theorem rdE_cases (xs : List Bool) (n : Int) : rdE xs n = 0 ∨ rdE xs n = 3 := by unfold rdE; split <;> simp
end
section
open Go.RowKit
variable {F : Nat → Prop}

theorem stp_hlt {code : List In4} {inp : List Bool} {s : Mc} (h : s.hlt = true) : stp code inp s = (s, false, s.flt) := by unfold stp; rw [if_pos h]
theorem stp_off {code : List In4} {inp : List Bool} {s : Mc} (h : s.hlt = false) (hp : code.length ≤ s.pc) : stp code inp s = ({ s with hlt := true, flt := 5 }, false, 5) := by
  unfold stp; rw [if_neg (by rw [h]; simp), List.getElem?_eq_none hp]
theorem stp_no {code : List In4} {inp : List Bool} {s : Mc} {x : In4} (h : s.hlt = false) (hx : code[s.pc]? = some x) (hE : insE inp code.length s x ≠ 0) : stp code inp s = ({ s with hlt := true, flt := insE inp code.length s x }, false, insE inp code.length s x) := by
  unfold stp; rw [if_neg (by rw [h]; simp), hx]; simp only; rw [if_pos hE]
theorem stp_ok {code : List In4} {inp : List Bool} {s : Mc} {x : In4} (h : s.hlt = false) (hx : code[s.pc]? = some x) (hE : insE inp code.length s x = 0) : stp code inp s = ({ insD inp s x with pc := insP s x }, !(insD inp s x).hlt, 0) := by
  unfold stp; rw [if_neg (by rw [h]; simp), hx]; simp only; rw [if_neg (by rw [hE]; simp)]

theorem RdC.four {w : World} {A : Option Addr} {code : List In4} (h : RdC w A code) (k : Nat) (x : In4) (hx : code[k]? = some x) : ∃ ad, A = some ad ∧ w.cell? (ad.add (k * 4)) = some (.int .i64 x.op) ∧
    w.cell? ⟨(ad.add (k * 4)).block, (ad.add (k * 4)).off + 1, none⟩ = some (.int .i64 x.k) ∧ w.cell? ⟨(ad.add (k * 4)).block, (ad.add (k * 4)).off + 2, none⟩ = some (.int .i64 x.n) ∧ w.cell? ⟨(ad.add (k * 4)).block, (ad.add (k * 4)).off + 3, none⟩ = some (.int .i64 x.t) := by
  obtain ⟨ad, e, h1, h2, h3, h4⟩ := h k x hx
  refine ⟨ad, e, h1, ?_, ?_, ?_⟩
  · rw [← Addr.add_add] at h2
    exact (congrArg w.cell? (Addr.add_succ' _ 0)).symm.trans h2
  · rw [← Addr.add_add] at h3
    exact (congrArg w.cell? (Addr.add_succ' _ 1)).symm.trans h3
  · rw [← Addr.add_add] at h4
    exact (congrArg w.cell? (Addr.add_succ' _ 2)).symm.trans h4
end
section
open Go.RowKit

theorem insD_pc (inp : List Bool) (s : Mc) (x : In4) : (insD inp s x).pc = s.pc := by
  unfold insD
  repeat' split
  all_goals rfl
theorem insD_len (inp : List Bool) (s : Mc) (x : In4) : (insD inp s x).q.length = s.q.length ∧ (insD inp s x).m.length = s.m.length ∧ (insD inp s x).e.length = s.e.length := by
  unfold insD
  repeat' split
  all_goals simp [wrQ_len', wrM_len']
theorem insD_stk {inp : List Bool} {len : Nat} {s : Mc} {x : In4} (hE : insE inp len s x = 0) (h : s.stk.length ≤ 64) : (insD inp s x).stk.length ≤ 64 := by
  by_cases c8 : x.op = 8
  · have h1 : insE inp len s x = if 64 ≤ s.stk.length then 10 else 0 := by simp [insE, c8]
    have h2 : insD inp s x = { s with stk := s.stk ++ [s.acc] } := by simp [insD, c8]
    have : ¬ 64 ≤ s.stk.length := fun hl => by rw [h1, if_pos hl] at hE; cases hE
    rw [h2]; simp; omega
  · unfold insD
    repeat' split
    all_goals first | exact h | (simp only [List.length_dropLast]; omega) | omega
theorem insD_hlt {inp : List Bool} {s : Mc} {x : In4} (h : s.hlt = false) (h16 : x.op ≠ 16) : (insD inp s x).hlt = false := by
  unfold insD
  repeat' split
  all_goals first | exact h | omega
/-- The next program counter lies behind this one, in the program or at its end. -/
theorem insP_gt {inp : List Bool} {len : Nat} {s : Mc} {x : In4} (hE : insE inp len s x = 0) (h16 : x.op ≠ 16) (hp : s.pc < len) : s.pc < insP s x ∧ insP s x ≤ len := by
  unfold insP
  by_cases hj : x.op = 15 ∧ s.acc = true
  · rw [if_pos hj]
    have h1 : insE inp len s x = if x.t < 0 ∨ (len : Int) ≤ x.t then 3 else if x.t ≤ (s.pc : Int) then 17 else 0 := by simp [insE, hj.1]
    rw [h1] at hE
    by_cases hr : x.t < 0 ∨ (len : Int) ≤ x.t
    · rw [if_pos hr] at hE; cases hE
    · rw [if_neg hr] at hE
      by_cases ho : x.t ≤ (s.pc : Int)
      · rw [if_pos ho] at hE; cases hE
      · omega
  · rw [if_neg hj, if_neg h16]; omega
theorem insP_16 {s : Mc} {x : In4} (h : x.op = 16) : insP s x = s.pc := by unfold insP; rw [if_neg (by rw [h]; simp), if_pos h]
theorem insD_16 {inp : List Bool} {s : Mc} {x : In4} (h : x.op = 16) : insD inp s x = { s with hlt := true } := by simp [insD, h]

/-- Sizes that the walks bear, of a machine of a program of so many instructions. -/
def FitL (code : List In4) (s : Mc) : Prop := Fit s ∧ s.pc ≤ code.length ∧ code.length ≤ 1000000
theorem stp_fit {code : List In4} {inp : List Bool} {s : Mc} (h : FitL code s) : FitL code (stp code inp s).1 := by
  obtain ⟨⟨hl, hs, hp⟩, hpc, hc⟩ := h
  cases hh : s.hlt with
  | true => rw [stp_hlt hh]; exact ⟨⟨hl, hs, hp⟩, hpc, hc⟩
  | false =>
    by_cases ho : code.length ≤ s.pc
    · rw [stp_off hh ho]; exact ⟨⟨hl, hs, hp⟩, hpc, hc⟩
    · have hx : code[s.pc]? = some code[s.pc] := List.getElem?_eq_getElem (by omega)
      by_cases hE : insE inp code.length s code[s.pc] = 0
      · rw [stp_ok hh hx hE]
        have hd := insD_len inp s code[s.pc]
        have hst := insD_stk hE hs
        have hpp : insP s code[s.pc] ≤ code.length := by
          by_cases h16 : code[s.pc].op = 16
          · rw [insP_16 h16]; exact hpc
          · exact (insP_gt hE h16 (by omega)).2
        exact ⟨⟨by simp only; omega, hst, by simp only; omega⟩, hpp, hc⟩
      · rw [stp_no hh hx hE]; exact ⟨⟨hl, hs, hp⟩, hpc, hc⟩
/-- How many steps a run may still take. -/
def mu (code : List In4) (s : Mc) : Nat := if s.hlt then 0 else code.length - s.pc + 1
theorem stp_mu {code : List In4} {inp : List Bool} {s : Mc} (hh : s.hlt = false) : mu code (stp code inp s).1 < mu code s := by
  have h0 : mu code s = code.length - s.pc + 1 := by unfold mu; rw [hh]; rfl
  by_cases ho : code.length ≤ s.pc
  · rw [stp_off hh ho]
    have : mu code { s with hlt := true, flt := 5 } = 0 := rfl
    exact Nat.lt_of_le_of_lt (Nat.le_of_eq this) (by omega)
  · have hx : code[s.pc]? = some code[s.pc] := List.getElem?_eq_getElem (by omega)
    by_cases hE : insE inp code.length s code[s.pc] = 0
    · rw [stp_ok hh hx hE]
      by_cases h16 : code[s.pc].op = 16
      · rw [insD_16 h16]
        have : mu code { s with pc := insP s code[s.pc], hlt := true } = 0 := rfl
        exact Nat.lt_of_le_of_lt (Nat.le_of_eq this) (by omega)
      · have hg := insP_gt hE h16 (by omega)
        have hf := insD_hlt (inp := inp) hh h16
        have : mu code { insD inp s code[s.pc] with pc := insP s code[s.pc] } = code.length - insP s code[s.pc] + 1 := by unfold mu; simp only; rw [hf]; rfl
        exact Nat.lt_of_le_of_lt (Nat.le_of_eq this) (by omega)
    · rw [stp_no hh hx hE]
      have : mu code { s with hlt := true, flt := insE inp code.length s code[s.pc] } = 0 := rfl
      exact Nat.lt_of_le_of_lt (Nat.le_of_eq this) (by omega)

/-- A run: the machine at its end, and how many instructions were executed. -/
def runF (code : List In4) (inp : List Bool) : Nat → Mc → Nat → Mc × Nat
  | 0, s, n => (s, n)
  | f + 1, s, n => if s.hlt then (s, n) else runF code inp f (stp code inp s).1 (if (stp code inp s).2.2 = 0 then n + 1 else n)
theorem runF_hlt {code : List In4} {inp : List Bool} {s : Mc} (h : s.hlt = true) (f n : Nat) : runF code inp f s n = (s, n) := by
  cases f with
  | zero => rfl
  | succ f => unfold runF; rw [if_pos h]
theorem runF_step {code : List In4} {inp : List Bool} {s : Mc} (h : s.hlt = false) (f n : Nat) : runF code inp (f + 1) s n = runF code inp f (stp code inp s).1 (if (stp code inp s).2.2 = 0 then n + 1 else n) := by
  rw [runF, if_neg (by rw [h]; simp)]
/-- Fuel beyond need changes nothing. -/
theorem runF_two {code : List In4} {inp : List Bool} : ∀ (f g : Nat) (s : Mc) (n : Nat), mu code s ≤ f → mu code s ≤ g → runF code inp f s n = runF code inp g s n := by
  intro f
  induction f with
  | zero =>
    intro g s n h _
    have hh : s.hlt = true := by
      cases hh : s.hlt with
      | true => rfl
      | false => unfold mu at h; rw [hh] at h; simp at h
    rw [runF_hlt hh, runF_hlt hh]
  | succ f ih =>
    intro g s n h1 h2
    cases hh : s.hlt with
    | true => rw [runF_hlt hh, runF_hlt hh]
    | false =>
      have hm := stp_mu (code := code) (inp := inp) hh
      obtain ⟨g', rfl⟩ : ∃ g', g = g' + 1 := ⟨g - 1, by omega⟩
      rw [runF_step hh, runF_step hh]
      exact ih g' _ _ (by omega) (by omega)
/-- A run from a machine on. -/
def run (code : List In4) (inp : List Bool) (s : Mc) (n : Nat) : Mc × Nat := runF code inp (mu code s) s n
theorem run_hlt {code : List In4} {inp : List Bool} {s : Mc} (h : s.hlt = true) (n : Nat) : run code inp s n = (s, n) := runF_hlt h _ _
theorem run_step {code : List In4} {inp : List Bool} {s : Mc} (h : s.hlt = false) (n : Nat) : run code inp s n = run code inp (stp code inp s).1 (if (stp code inp s).2.2 = 0 then n + 1 else n) := by
  have hm := stp_mu (code := code) (inp := inp) h
  obtain ⟨g, hg⟩ : ∃ g, mu code s = g + 1 := ⟨mu code s - 1, by omega⟩
  unfold run
  rw [hg, runF_step h]
  exact runF_two g _ _ _ (by omega) (Nat.le_refl _)
end
section
open Go.RowKit
variable {F : Nat → Prop}

def hl (w : World) (b : Nat) : Nat := match w.cell? ⟨b, 8, none⟩ with
  | some (.bool true) => 0
  | _ => 1
theorem hl_le (w : World) (b : Nat) : hl w b ≤ 1 := by unfold hl; split <;> omega
theorem hl_yes {w : World} {b : Nat} (h : w.cell? ⟨b, 8, none⟩ = some (.bool true)) : hl w b = 0 := by unfold hl; rw [h]
theorem hl_no {w : World} {b : Nat} (h : w.cell? ⟨b, 8, none⟩ = some (.bool false)) : hl w b = 1 := by unfold hl; rw [h]
/-- A fault ends the machine. -/
theorem stp_end {code : List In4} {inp : List Bool} {s : Mc} (hh : s.hlt = false) (he : (stp code inp s).2.2 ≠ 0) : (stp code inp s).1.hlt = true := by
  by_cases ho : code.length ≤ s.pc
  · rw [stp_off hh ho]
  · have hx : code[s.pc]? = some code[s.pc] := List.getElem?_eq_getElem (by omega)
    by_cases hE : insE inp code.length s code[s.pc] = 0
    · rw [stp_ok hh hx hE] at he; exact absurd rfl he
    · rw [stp_no hh hx hE]
/-- What is read in a block is one of its cells. -/
theorem Bx.mem {w : World} {g : Nat} {T : TypeId} {vs : List Value} {p : Addr} {v : Value} (h : Bx w g T vs) (hp : p.block = g) (hc : w.cell? p = some v) : v ∈ vs := by
  subst hp
  have e : w.heap[p.block]? = some (.cells vs.toArray T (0, 0)) := h
  simp [World.cell?, e] at hc
  exact List.mem_of_getElem? hc.2
/-- An image lies in no block without a Boolean. -/
theorem Im.off {w : World} {g : Nat} {T : TypeId} {vs : List Value} {A : Option Addr} {m c : Nat} {xs : List Bool} (h : Im w A m c xs) (k : Bx w g T vs) (hv : ∀ b, .bool b ∉ vs) : Off g A xs.length := fun h0 ad e hb => by
  obtain ⟨ad', e', hc⟩ := h.1 0 _ (List.getElem?_eq_getElem h0)
  obtain rfl := Option.some.inj (e.symm.trans e')
  exact hv _ (k.mem (by rw [show (ad.add 0).block = ad.block by unfold Addr.add; split <;> rfl]; exact hb) hc)
theorem Im.mv {w w' : World} {g : Nat} {T : TypeId} {vs : List Value} {A : Option Addr} {m c : Nat} {xs : List Bool} (h : Im w A m c xs) (k : Bx w g T vs) (hv : ∀ b, .bool b ∉ vs) (hm : Mv g none w w') : Im w' A m c xs :=
  ⟨h.1.mv (h.off k hv) hm, h.2⟩
theorem ImS.mv {w w' : World} {g : Nat} {T : TypeId} {vs : List Value} {S : Value} {x1 x2 x3 : List Bool} (h : ImS w S x1 x2 x3) (k : Bx w g T vs) (hv : ∀ b, .bool b ∉ vs) (hm : Mv g none w w') : ImS w' S x1 x2 x3 := by
  obtain ⟨A1, A2, A3, c1, c2, c3, rfl, h1, h2, h3⟩ := h
  exact ⟨A1, A2, A3, c1, c2, c3, rfl, h1.mv k hv hm, h2.mv k hv hm, h3.mv k hv hm⟩
/-- What a run answers. -/
def RunPost (code : List In4) (inp : List Bool) (s0 : Mc) (w : World) (e : Ending) (w' : World) : Prop :=
  ∃ v2 v3 v4, e = .returned (.agg #[v2, v3, v4, .int .i64 ((run code inp s0 0).2 : Int), .int .i64 ((run code inp s0 0).1.pc : Int), .int .i64 (run code inp s0 0).1.flt]) ∧
    ImS w' (.agg #[v2, v3, v4]) (run code inp s0 0).1.q (run code inp s0 0).1.m (run code inp s0 0).1.e ∧ Nx w w'
end
section
open Go.RowKit

theorem infoIns : (Try.prog.info? 28).map (fun i => (i.zero, i.size, i.bytes)) = some (some (.agg #[.int .i64 0, .int .i64 0, .int .i64 0, .int .i64 0]), 4, 32) := by kernel_rfl
/-- The cells of a program. -/
def ins : List In4 → List Value
  | [] => []
  | x :: l => .int .i64 x.op :: .int .i64 x.k :: .int .i64 x.n :: .int .i64 x.t :: ins l
theorem ins_len (l : List In4) : (ins l).length = l.length * 4 := by
  induction l with
  | nil => rfl
  | cons x l ih => simp only [ins, List.length_cons, ih]; omega
theorem ins_at (l : List In4) : ∀ (j : Nat) (u : Value), (ins l)[j]? = some u → ∃ i x, l[i]? = some x ∧ ((j = i * 4 ∧ u = .int .i64 x.op) ∨ (j = i * 4 + 1 ∧ u = .int .i64 x.k) ∨ (j = i * 4 + 2 ∧ u = .int .i64 x.n) ∨ (j = i * 4 + 3 ∧ u = .int .i64 x.t)) := by
  induction l with
  | nil => intro j u h; simp [ins] at h
  | cons x l ih =>
    intro j u h
    rcases j with _ | _ | _ | _ | j
    · exact ⟨0, x, rfl, .inl ⟨rfl, (Option.some.inj h).symm⟩⟩
    · exact ⟨0, x, rfl, .inr (.inl ⟨rfl, (Option.some.inj h).symm⟩)⟩
    · exact ⟨0, x, rfl, .inr (.inr (.inl ⟨rfl, (Option.some.inj h).symm⟩))⟩
    · exact ⟨0, x, rfl, .inr (.inr (.inr ⟨rfl, (Option.some.inj h).symm⟩))⟩
    · obtain ⟨i, y, hy, hc⟩ := ih j u h
      refine ⟨i + 1, y, hy, ?_⟩
      rcases hc with ⟨rfl, e⟩ | ⟨rfl, e⟩ | ⟨rfl, e⟩ | ⟨rfl, e⟩
      · exact .inl ⟨by omega, e⟩
      · exact .inr (.inl ⟨by omega, e⟩)
      · exact .inr (.inr (.inl ⟨by omega, e⟩))
      · exact .inr (.inr (.inr ⟨by omega, e⟩))
theorem ins_get (l : List In4) : ∀ (k : Nat) (x : In4), l[k]? = some x → (ins l)[k * 4]? = some (.int .i64 x.op) ∧ (ins l)[k * 4 + 1]? = some (.int .i64 x.k) ∧ (ins l)[k * 4 + 2]? = some (.int .i64 x.n) ∧ (ins l)[k * 4 + 3]? = some (.int .i64 x.t) := by
  induction l with
  | nil => intro k x h; simp at h
  | cons y l ih =>
    intro k x h
    cases k with
    | zero => obtain rfl := Option.some.inj h; exact ⟨rfl, rfl, rfl, rfl⟩
    | succ k =>
      obtain ⟨h1, h2, h3, h4⟩ := ih k x h
      have e : (k + 1) * 4 = k * 4 + 1 + 1 + 1 + 1 := by omega
      rw [e]
      exact ⟨h1, h2, h3, h4⟩
theorem ins_one (l : List In4) : ∀ u ∈ ins l, u.oneCell' = true := fun u hu => by
  obtain ⟨j, hj⟩ := List.getElem?_of_mem hu
  obtain ⟨i, x, _, hc⟩ := ins_at l j u hj
  rcases hc with ⟨_, rfl⟩ | ⟨_, rfl⟩ | ⟨_, rfl⟩ | ⟨_, rfl⟩ <;> rfl
theorem ins_src {w : World} {ad : Addr} {l : List In4} (h : RdC w (some ad) l) : ∀ j u, (ins l)[j]? = some u → w.cell? (ad.add j) = some u := fun j u hj => by
  obtain ⟨i, x, hx, hc⟩ := ins_at l j u hj
  obtain ⟨ad', e, h1, h2, h3, h4⟩ := h i x hx
  obtain rfl := Option.some.inj e
  rcases hc with ⟨rfl, rfl⟩ | ⟨rfl, rfl⟩ | ⟨rfl, rfl⟩ | ⟨rfl, rfl⟩
  · exact h1
  · exact h2
  · exact h3
  · exact h4
/-- A slice value of the call's own that reads as a program. -/
def OwC (w : World) (B : Nat) (v : Value) (code : List In4) : Prop := w.ownsRow B 28 4 v code.length (ins code)
theorem OwC.nx {w w' : World} {B : Nat} {v : Value} {code : List In4} (h : OwC w B v code) (k : Nx w w') : OwC w' B v code := own_of h fun g _ hg => k.block g hg
theorem OwC.rd {w : World} {B : Nat} {v : Value} {code : List In4} (h : OwC w B v code) : ∃ A c, v = .slice A code.length c ∧ RdC w A code ∧ (∀ ad, A = some ad → ad.block < w.heap.size ∧ B ≤ ad.block) ∧ (A = none → c = 0) := by
  unfold OwC at h
  rcases h.2 with ⟨rfl, h0⟩ | ⟨g, cap, cur, rfl, hg, hcur, _⟩
  · obtain rfl := List.eq_nil_of_length_eq_zero h0
    exact ⟨none, 0, rfl, fun k x hk => by simp at hk, (fun ad e => by cases e), fun _ => rfl⟩
  · refine ⟨_, _, rfl, fun k x hk => ?_, fun ad e => ?_, fun e => by cases e⟩
    · obtain ⟨h1, h2, h3, h4⟩ := ins_get code k x hk
      have hc := World.ownsRow.cells h (g := g) rfl
      exact ⟨_, rfl, hc _ _ h1, hc _ _ h2, hc _ _ h3, hc _ _ h4⟩
    · obtain rfl := Option.some.inj e
      exact ⟨(Array.getElem?_eq_some_iff.1 hcur).1, hg⟩
theorem own_lowC {w : World} {B B' : Nat} {v : Value} {n : Nat} {ys : List Value} (h : w.ownsRow B 28 4 v n ys) (hb : B' ≤ B) : w.ownsRow B' 28 4 v n ys := by
  obtain ⟨h1, h2⟩ := h
  refine ⟨h1, ?_⟩
  rcases h2 with hn | ⟨g', cap, cur, e, hg, rest⟩
  · exact .inl hn
  · exact .inr ⟨g', cap, cur, e, Nat.le_trans hb hg, rest⟩
/-- append(an empty slice of the call's own, a program ...). -/
theorem wp_freshC {o : Oper} {a1 : Act} {w1 : World} {K : Act → World → Prop} {Q : Exit → Act → World → Prop} (s x : Operand)
    (ho : o.op = .call { callee := .builtin .append, args := #[s, x], argTypes := #[24, 24] }) (B g : Nat) (hs : a1.eval s = .slice (some ⟨g, 0, none⟩) 0 0)
    (hg : w1.ownsRow B 28 4 (.slice (some ⟨g, 0, none⟩) 0 0) 0 []) (A : Option Addr) (c : Nat) (code : List In4) (hx : a1.eval x = .slice A code.length c) (hr : RdC w1 A code) (hc : A = none → c = 0) (hm : code.length ≤ 1000000)
    (hB : B ≤ w1.heap.size) (h : ∀ v w2, Nx w1 w2 → OwC w2 B v code → K (a1.put o.dst v) w2) : o.wp Try.prog a1 w1 K Q := by
  obtain ⟨i0, h2, hz0, hz1, hz2⟩ := info_parts infoIns
  cases A with
  | none =>
    obtain rfl := hc rfl
    have hxs : code = [] := by
      cases code with
      | nil => rfl
      | cons b l => obtain ⟨ad, e, _⟩ := hr 0 b rfl; cases e
    subst hxs
    have hrun := run_append_owned_none (P := Try.prog) (w := w1) B 24 o.type 28 i0 4 Try.underlying24 h2 _ 0 [] hg
    unfold Oper.wp
    simp [execOp, ho, resolve, invoke, builtin, hs, hx, hrun, Result.andThen]
    exact h _ _ (Nx.refl _) hg
  | some ad =>
    by_cases h0 : code.length = 0
    · obtain rfl := List.eq_nil_of_length_eq_zero h0
      have hrun := run_append_room_cells (P := Try.prog) w1 24 o.type 28 i0 Try.underlying24 h2 g 0 0 0 ad 0 c [] (by simp) (by simp) (by simp) (Nat.le_refl _) (by simp) (by simp)
      unfold Oper.wp
      simp [execOp, ho, resolve, invoke, builtin, hs, hx, hrun, Result.andThen]
      exact h _ _ (Nx.refl _) hg
    · obtain ⟨v', w', hrun, r1, r2⟩ := run_append_arg_grows (P := Try.prog) w1 24 o.type 28 i0 (.agg #[.int .i64 0, .int .i64 0, .int .i64 0, .int .i64 0]) 4 32 Try.underlying24 h2 hz0 hz1 hz2 rfl (by decide) ⟨g, 0, none⟩ 0 0 [] (by simp) (by simp) ad code.length c (ins code) (ins_len code) (ins_src hr) (by omega) (by unfold maxLen; omega) (by omega)
      unfold Oper.wp
      simp [execOp, ho, resolve, invoke, builtin, hs, hx, hrun, Result.andThen]
      rw [Nat.zero_add, List.nil_append] at r1
      exact h v' w' (Below.grown (Nx.refl _) r2 (Nat.le_refl _) (fun _ e => by cases e)) (own_lowC r1 hB)
end
section
open Go.RowKit
variable {F : Nat → Prop}

/-- A block that an image reads in is there. -/
theorem Im.offLe {w : World} {A : Option Addr} {m c b : Nat} {xs : List Bool} (h : Im w A m c xs) (hb : w.heap.size ≤ b) : Off b A xs.length := fun h0 ad e => by
  obtain ⟨ad', e', hc⟩ := h.1 0 _ (List.getElem?_eq_getElem h0)
  obtain rfl := Option.some.inj (e.symm.trans e')
  have := World.block_lt_of_cell? w _ hc
  rw [show (ad.add (0 : Nat)).block = ad.block by unfold Addr.add; split <;> rfl] at this
  omega
/-- The machine at its beginning. -/
def mc0 (x1 x2 x3 : List Bool) : Mc := ⟨x1, x2, x3, 0, false, [], false, 0⟩
/-- The ten cells, before they lie in a block. -/
def NewV (w : World) (B : Nat) (v : Value) (code : List In4) (inp x1 x2 x3 : List Bool) : Prop := ∃ Ac Ai Aq Am Ae cc ci cq cm ce, v = .agg (rmc Ac Ai Aq Am Ae none cc ci cq cm ce 0 code.length inp (mc0 x1 x2 x3)).toArray ∧
  (RdC w Ac code ∧ ∀ ad, Ac = some ad → ad.block < w.heap.size ∧ B ≤ ad.block) ∧ ImB w B Ai inp.length ci inp ∧ ImB w B Aq x1.length cq x1 ∧ ImB w B Am x2.length cm x2 ∧ ImB w B Ae x3.length ce x3
theorem NewV.nx {w w' : World} {B : Nat} {v : Value} {code : List In4} {inp x1 x2 x3 : List Bool} (h : NewV w B v code inp x1 x2 x3) (k : Nx w w') : NewV w' B v code inp x1 x2 x3 := by
  obtain ⟨Ac, Ai, Aq, Am, Ae, cc, ci, cq, cm, ce, rfl, ⟨h1, h2⟩, h3, h4, h5, h6⟩ := h
  exact ⟨Ac, Ai, Aq, Am, Ae, cc, ci, cq, cm, ce, rfl, ⟨h1.nx k, fun ad e => ⟨Nat.lt_of_lt_of_le (h2 ad e).1 k.size, (h2 ad e).2⟩⟩, h3.nx k, h4.nx k, h5.nx k, h6.nx k⟩
theorem ImB.farF {w : World} {B b : Nat} {A : Option Addr} {c : Nat} {x : List Bool} (h : ImB w B A x.length c x) (hF : ∀ k, F k → k < B) (hb : w.heap.size ≤ b) : OffF F b A x.length :=
  ⟨h.1.offLe hb, fun h0 ad e hk => by have := h.2 h0 ad e; have := hF _ hk; omega⟩
end
end Go.Proofs.Ytdpccnpaajhliaa
