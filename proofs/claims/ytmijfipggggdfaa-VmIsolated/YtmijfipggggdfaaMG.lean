/- Plain facts on the machine: sizes stay, the program counter grows, every run ends. What Run of the reference's machine does, New's contract given. append of a program onto a new empty slice, as one operation of a region; New of the reference's machine; Run with it. New of the reference's machine; Run with it. Conditions: as each theorem states them. -/
import Derived.Test.YtmijfipggggdfaaMF
import Derived.Test.YtmijfipggggdfaaMA
import Derived.Test.YtmijfipggggdfaaMB
namespace Go.Proofs.Ytmijfipggggdfaa
section
open Go.RowKit

theorem insD_pc (inp : List Bool) (s : Mc) (x : In4) : (insD inp s x).pc = s.pc := by
  unfold insD
  repeat' split
  all_goals rfl
theorem insD_len (inp : List Bool) (s : Mc) (x : In4) : (insD inp s x).q.length = s.q.length ∧ (insD inp s x).m.length = s.m.length ∧ (insD inp s x).e.length = s.e.length := by
  unfold insD
  repeat' split
  all_goals simp [wrQ_len', wrM_len']
theorem insD_stk {inp : List Bool} {len : Nat} {s : Mc} {x : In4} (hE : insE inp len s x = 0) (h : s.stk.length ≤ 64) : (insD inp s x).stk.length ≤ 64 := by
  by_cases c8 : x.op = 8
  · have h1 : insE inp len s x = if 64 ≤ s.stk.length then 10 else 0 := by simp [insE, c8]
    have h2 : insD inp s x = { s with stk := s.stk ++ [s.acc] } := by simp [insD, c8]
    have : ¬ 64 ≤ s.stk.length := fun hl => by rw [h1, if_pos hl] at hE; cases hE
    rw [h2]; simp; omega
  · unfold insD
    repeat' split
    all_goals first | exact h | (simp only [List.length_dropLast]; omega) | omega
theorem insD_hlt {inp : List Bool} {s : Mc} {x : In4} (h : s.hlt = false) (h16 : x.op ≠ 16) : (insD inp s x).hlt = false := by
  unfold insD
  repeat' split
  all_goals first | exact h | omega
/-- The next program counter lies behind this one, in the program or at its end. -/
theorem insP_gt {inp : List Bool} {len : Nat} {s : Mc} {x : In4} (hE : insE inp len s x = 0) (h16 : x.op ≠ 16) (hp : s.pc < len) : s.pc < insP s x ∧ insP s x ≤ len := by
  unfold insP
  by_cases hj : x.op = 15 ∧ s.acc = true
  · rw [if_pos hj]
    have h1 : insE inp len s x = if x.t < 0 ∨ (len : Int) ≤ x.t then 3 else if x.t ≤ (s.pc : Int) then 17 else 0 := by simp [insE, hj.1]
    rw [h1] at hE
    by_cases hr : x.t < 0 ∨ (len : Int) ≤ x.t
    · rw [if_pos hr] at hE; cases hE
    · rw [if_neg hr] at hE
      by_cases ho : x.t ≤ (s.pc : Int)
      · rw [if_pos ho] at hE; cases hE
      · omega
  · rw [if_neg hj, if_neg h16]; omega
theorem insP_16 {s : Mc} {x : In4} (h : x.op = 16) : insP s x = s.pc := by unfold insP; rw [if_neg (by rw [h]; simp), if_pos h]
theorem insD_16 {inp : List Bool} {s : Mc} {x : In4} (h : x.op = 16) : insD inp s x = { s with hlt := true } := by simp [insD, h]

/-- Sizes that the walks bear, of a machine of a program of so many instructions. -/
def FitL (code : List In4) (s : Mc) : Prop := Fit s ∧ s.pc ≤ code.length ∧ code.length ≤ 1000000
theorem stp_fit {code : List In4} {inp : List Bool} {s : Mc} (h : FitL code s) : FitL code (stp code inp s).1 := by
  obtain ⟨⟨hl, hs, hp⟩, hpc, hc⟩ := h
  cases hh : s.hlt with
  | true => rw [stp_hlt hh]; exact ⟨⟨hl, hs, hp⟩, hpc, hc⟩
  | false =>
    by_cases ho : code.length ≤ s.pc
    · rw [stp_off hh ho]; exact ⟨⟨hl, hs, hp⟩, hpc, hc⟩
    · have hx : code[s.pc]? = some code[s.pc] := List.getElem?_eq_getElem (by omega)
      by_cases hE : insE inp code.length s code[s.pc] = 0
      · rw [stp_ok hh hx hE]
        have hd := insD_len inp s code[s.pc]
        have hst := insD_stk hE hs
        have hpp : insP s code[s.pc] ≤ code.length := by
          by_cases h16 : code[s.pc].op = 16
          · rw [insP_16 h16]; exact hpc
          · exact (insP_gt hE h16 (by omega)).2
        exact ⟨⟨by simp only; omega, hst, by simp only; omega⟩, hpp, hc⟩
      · rw [stp_no hh hx hE]; exact ⟨⟨hl, hs, hp⟩, hpc, hc⟩
/-- How many steps a run may still take. -/
def mu (code : List In4) (s : Mc) : Nat := if s.hlt then 0 else code.length - s.pc + 1
theorem stp_mu {code : List In4} {inp : List Bool} {s : Mc} (hh : s.hlt = false) : mu code (stp code inp s).1 < mu code s := by
  have h0 : mu code s = code.length - s.pc + 1 := by unfold mu; rw [hh]; rfl
  by_cases ho : code.length ≤ s.pc
  · rw [stp_off hh ho]
    have : mu code { s with hlt := true, flt := 5 } = 0 := rfl
    exact Nat.lt_of_le_of_lt (Nat.le_of_eq this) (by omega)
  · have hx : code[s.pc]? = some code[s.pc] := List.getElem?_eq_getElem (by omega)
    by_cases hE : insE inp code.length s code[s.pc] = 0
    · rw [stp_ok hh hx hE]
      by_cases h16 : code[s.pc].op = 16
      · rw [insD_16 h16]
        have : mu code { s with pc := insP s code[s.pc], hlt := true } = 0 := rfl
        exact Nat.lt_of_le_of_lt (Nat.le_of_eq this) (by omega)
      · have hg := insP_gt hE h16 (by omega)
        have hf := insD_hlt (inp := inp) hh h16
        have : mu code { insD inp s code[s.pc] with pc := insP s code[s.pc] } = code.length - insP s code[s.pc] + 1 := by unfold mu; simp only; rw [hf]; rfl
        exact Nat.lt_of_le_of_lt (Nat.le_of_eq this) (by omega)
    · rw [stp_no hh hx hE]
      have : mu code { s with hlt := true, flt := insE inp code.length s code[s.pc] } = 0 := rfl
      exact Nat.lt_of_le_of_lt (Nat.le_of_eq this) (by omega)

/-- A run: the machine at its end, and how many instructions were executed. -/
def runF (code : List In4) (inp : List Bool) : Nat → Mc → Nat → Mc × Nat
  | 0, s, n => (s, n)
  | f + 1, s, n => if s.hlt then (s, n) else runF code inp f (stp code inp s).1 (if (stp code inp s).2.2 = 0 then n + 1 else n)
theorem runF_hlt {code : List In4} {inp : List Bool} {s : Mc} (h : s.hlt = true) (f n : Nat) : runF code inp f s n = (s, n) := by
  cases f with
  | zero => rfl
  | succ f => unfold runF; rw [if_pos h]
theorem runF_step {code : List In4} {inp : List Bool} {s : Mc} (h : s.hlt = false) (f n : Nat) : runF code inp (f + 1) s n = runF code inp f (stp code inp s).1 (if (stp code inp s).2.2 = 0 then n + 1 else n) := by
  rw [runF, if_neg (by rw [h]; simp)]
/-- Fuel beyond need changes nothing. -/
theorem runF_two {code : List In4} {inp : List Bool} : ∀ (f g : Nat) (s : Mc) (n : Nat), mu code s ≤ f → mu code s ≤ g → runF code inp f s n = runF code inp g s n := by
  intro f
  induction f with
  | zero =>
    intro g s n h _
    have hh : s.hlt = true := by
      cases hh : s.hlt with
      | true => rfl
      | false => unfold mu at h; rw [hh] at h; simp at h
    rw [runF_hlt hh, runF_hlt hh]
  | succ f ih =>
    intro g s n h1 h2
    cases hh : s.hlt with
    | true => rw [runF_hlt hh, runF_hlt hh]
    | false =>
      have hm := stp_mu (code := code) (inp := inp) hh
      obtain ⟨g', rfl⟩ : ∃ g', g = g' + 1 := ⟨g - 1, by omega⟩
      rw [runF_step hh, runF_step hh]
      exact ih g' _ _ (by omega) (by omega)
/-- A run from a machine on. -/
def run (code : List In4) (inp : List Bool) (s : Mc) (n : Nat) : Mc × Nat := runF code inp (mu code s) s n
theorem run_hlt {code : List In4} {inp : List Bool} {s : Mc} (h : s.hlt = true) (n : Nat) : run code inp s n = (s, n) := runF_hlt h _ _
theorem run_step {code : List In4} {inp : List Bool} {s : Mc} (h : s.hlt = false) (n : Nat) : run code inp s n = run code inp (stp code inp s).1 (if (stp code inp s).2.2 = 0 then n + 1 else n) := by
  have hm := stp_mu (code := code) (inp := inp) h
  obtain ⟨g, hg⟩ : ∃ g, mu code s = g + 1 := ⟨mu code s - 1, by omega⟩
  unfold run
  rw [hg, runF_step h]
  exact runF_two g _ _ _ (by omega) (Nat.le_refl _)
end
section
open Go.RowKit
variable {F : Nat → Prop}

def hl (w : World) (b : Nat) : Nat := match w.cell? ⟨b, 8, none⟩ with
  | some (.bool true) => 0
  | _ => 1
theorem hl_le (w : World) (b : Nat) : hl w b ≤ 1 := by unfold hl; split <;> omega
theorem hl_yes {w : World} {b : Nat} (h : w.cell? ⟨b, 8, none⟩ = some (.bool true)) : hl w b = 0 := by unfold hl; rw [h]
theorem hl_no {w : World} {b : Nat} (h : w.cell? ⟨b, 8, none⟩ = some (.bool false)) : hl w b = 1 := by unfold hl; rw [h]
/-- A fault ends the machine. -/
theorem stp_end {code : List In4} {inp : List Bool} {s : Mc} (hh : s.hlt = false) (he : (stp code inp s).2.2 ≠ 0) : (stp code inp s).1.hlt = true := by
  by_cases ho : code.length ≤ s.pc
  · rw [stp_off hh ho]
  · have hx : code[s.pc]? = some code[s.pc] := List.getElem?_eq_getElem (by omega)
    by_cases hE : insE inp code.length s code[s.pc] = 0
    · rw [stp_ok hh hx hE] at he; exact absurd rfl he
    · rw [stp_no hh hx hE]
theorem RM.imS {w : World} {b : Nat} {code : List In4} {inp : List Bool} {s : Mc} (h : RM F w b code inp s) : ∃ v2 v3 v4, w.cell? ⟨b, 2, none⟩ = some v2 ∧ w.cell? ⟨b, 3, none⟩ = some v3 ∧ w.cell? ⟨b, 4, none⟩ = some v4 ∧ (∃ A m c, v2 = .slice A m c) ∧ (∃ A m c, v3 = .slice A m c) ∧ (∃ A m c, v4 = .slice A m c) ∧ ImS w (.agg #[v2, v3, v4]) s.q s.m s.e := by
  obtain ⟨Ac, Ai, Aq, Am, Ae, As, cc, ci, cq, cm, ce, cs, hb, _, h1, h2, h3, h4, h5⟩ := h
  exact ⟨_, _, _, hb.cell 2 rfl, hb.cell 3 rfl, hb.cell 4 rfl, ⟨_, _, _, rfl⟩, ⟨_, _, _, rfl⟩, ⟨_, _, _, rfl⟩, Aq, Am, Ae, cq, cm, ce, rfl, h2.1, h3.1, h4.1⟩
/-- What is read in a block is one of its cells. -/
theorem Bx.mem {w : World} {g : Nat} {T : TypeId} {vs : List Value} {p : Addr} {v : Value} (h : Bx w g T vs) (hp : p.block = g) (hc : w.cell? p = some v) : v ∈ vs := by
  subst hp
  have e : w.heap[p.block]? = some (.cells vs.toArray T (0, 0)) := h
  simp [World.cell?, e] at hc
  exact List.mem_of_getElem? hc.2
/-- An image lies in no block without a Boolean. -/
theorem Im.off {w : World} {g : Nat} {T : TypeId} {vs : List Value} {A : Option Addr} {m c : Nat} {xs : List Bool} (h : Im w A m c xs) (k : Bx w g T vs) (hv : ∀ b, .bool b ∉ vs) : Off g A xs.length := fun h0 ad e hb => by
  obtain ⟨ad', e', hc⟩ := h.1 0 _ (List.getElem?_eq_getElem h0)
  obtain rfl := Option.some.inj (e.symm.trans e')
  exact hv _ (k.mem (by rw [show (ad.add 0).block = ad.block by unfold Addr.add; split <;> rfl]; exact hb) hc)
theorem Im.mv {w w' : World} {g : Nat} {T : TypeId} {vs : List Value} {A : Option Addr} {m c : Nat} {xs : List Bool} (h : Im w A m c xs) (k : Bx w g T vs) (hv : ∀ b, .bool b ∉ vs) (hm : Mv g none w w') : Im w' A m c xs :=
  ⟨h.1.mv (h.off k hv) hm, h.2⟩
theorem ImS.mv {w w' : World} {g : Nat} {T : TypeId} {vs : List Value} {S : Value} {x1 x2 x3 : List Bool} (h : ImS w S x1 x2 x3) (k : Bx w g T vs) (hv : ∀ b, .bool b ∉ vs) (hm : Mv g none w w') : ImS w' S x1 x2 x3 := by
  obtain ⟨A1, A2, A3, c1, c2, c3, rfl, h1, h2, h3⟩ := h
  exact ⟨A1, A2, A3, c1, c2, c3, rfl, h1.mv k hv hm, h2.mv k hv hm, h3.mv k hv hm⟩
/-- What a run answers. -/
def RunPost (code : List In4) (inp : List Bool) (s0 : Mc) (w : World) (e : Ending) (w' : World) : Prop :=
  ∃ v2 v3 v4, e = .returned (.agg #[v2, v3, v4, .int .i64 ((run code inp s0 0).2 : Int), .int .i64 ((run code inp s0 0).1.pc : Int), .int .i64 (run code inp s0 0).1.flt]) ∧
    ImS w' (.agg #[v2, v3, v4]) (run code inp s0 0).1.q (run code inp s0 0).1.m (run code inp s0 0).1.e ∧ Nx w w'

set_option maxHeartbeats 3200000 in
set_option maxRecDepth 100000 in
theorem refRun_of (code : List In4) (inp : List Bool) (s0 : Mc) (hfit : FitL code s0) (h0 : mu code s0 ≤ code.length + 1) (Ac Ai A1 A2 A3 : Option Addr) (nc ni m1 m2 m3 cc ci c1 c2 c3 : Nat) (w : World)
    (hN : ∀ w1, Nx w w1 → Calls Try.prog 23 #[.slice Ac nc cc, .slice Ai ni ci, .agg #[.slice A1 m1 c1, .slice A2 m2 c2, .slice A3 m3 c3]] w1 (fun e w' => ∃ b, e = .returned (.pointer (some ⟨b, 0, none⟩)) ∧ RM F w' b code inp s0 ∧ w1.heap.size ≤ b ∧ Nx w1 w')) :
    Calls Try.prog 14 #[.slice Ac nc cc, .slice Ai ni ci, .agg #[.slice A1 m1 c1, .slice A2 m2 c2, .slice A3 m3 c3]] w (RunPost code inp s0 w) := by
  unfold RunPost
  have N0 := Lib.hid (show Nx w ((w.alloc (.cells #[.slice A1 m1 c1, .slice A2 m2 c2, .slice A3 m3 c3] 25)).alloc (.cells #[.slice none 0 0, .slice none 0 0, .slice none 0 0, .int .i64 0, .int .i64 0, .int .i64 0] 33)) from (Nx.one _ _).alloc _)
  have XR := Lib.hid (bx_new (w.alloc (.cells #[.slice A1 m1 c1, .slice A2 m2 c2, .slice A3 m3 c3] 25)) 33 [.slice none 0 0, .slice none 0 0, .slice none 0 0, .int .i64 0, .int .i64 0, .int .i64 0])
  rw [show (w.alloc (.cells #[.slice A1 m1 c1, .slice A2 m2 c2, .slice A3 m3 c3] 25)).heap.size = w.heap.size + 1 by simp] at XR
  have XS := ((bx_new w 25 [.slice A1 m1 c1, .slice A2 m2 c2, .slice A3 m3 c3]).nx (Nx.one _ (.cells #[.slice none 0 0, .slice none 0 0, .slice none 0 0, .int .i64 0, .int .i64 0, .int .i64 0] 33)))
  have x0 := XS.cell 0 rfl
  have x1 := XS.cell 1 rfl
  have x2 := XS.cell 2 rfl
  have B1 := Lib.hid (show ((w.alloc (.cells #[.slice A1 m1 c1, .slice A2 m2 c2, .slice A3 m3 c3] 25)).alloc (.cells #[.slice none 0 0, .slice none 0 0, .slice none 0 0, .int .i64 0, .int .i64 0, .int .i64 0] 33)).heap.size = w.heap.size + 2 by simp)
  have HN := Lib.hid hN
  have HF := Lib.hid hfit
  have H0 := Lib.hid h0
  clear XS hN hfit h0
  go_enter Try.func14, Try.ntmps14
  go_wp2_with fail
  refine (HN.out _ N0.out).mono ?_
  clear x0 x1 x2
  generalize (w.alloc (.cells #[.slice A1 m1 c1, .slice A2 m2 c2, .slice A3 m3 c3] 25)).alloc (.cells #[.slice none 0 0, .slice none 0 0, .slice none 0 0, .int .i64 0, .int .i64 0, .int .i64 0] 33) = W at *
  rintro e w1 ⟨b, rfl, hr, hb, k⟩
  have N1 := Lib.hid (N0.out.trans k)
  have XR1 := Lib.hid (XR.out.nx k)
  have HB := Lib.hid (show w.heap.size + 2 ≤ b by have := B1.out; omega)
  have R1 := Lib.hid hr
  clear hr hb k B1 XR N0 HN
  go_wp2_with fail
  go_loopw [8] (fun i wr => ∃ (s : Mc) (n : Nat), i = .int .i64 n ∧ RM F wr b code inp s ∧ FitL code s ∧ n + mu code s ≤ code.length + 1 ∧ run code inp s n = run code inp s0 0 ∧ Nx w wr ∧
      Bx wr (w.heap.size + 1) 33 [.slice none 0 0, .slice none 0 0, .slice none 0 0, .int .i64 0, .int .i64 0, .int .i64 0])
    (fun i wr => 2 * (code.length + 2 - (intOf i).toNat) + hl wr b)
  case atStart => exact ⟨s0, 0, rfl, R1.out, HF.out, by have := H0.out; omega, rfl, N1.out, XR1.out⟩
  case round =>
    obtain ⟨s, n, rfl, hr, hf, hle, hrun, hn, hx⟩ := hrel
    clear N1 XR1 R1 HF H0
    have q8 := hr.hltCell
    have hc := hf.2.2
    cases hh : s.hlt with
    | false =>
      rw [hh] at q8
      obtain ⟨s1, c1', e1, hS⟩ : ∃ s1 c1 e1, stp code inp s = (s1, c1, e1) := ⟨_, _, _, rfl⟩
      have hmu := stp_mu (code := code) (inp := inp) hh
      have F1 := stp_fit (inp := inp) hf
      have hr1 := run_step (code := code) (inp := inp) hh n
      have hend := stp_end (code := code) (inp := inp) hh
      have CL := Lib.hid (refStep_any b code inp s hf.1 wr hr)
      unfold StepPost at CL
      rw [hS] at hmu F1 hr1 hend CL
      simp only at hmu F1 hr1 hend CL
      have HM := Lib.hid hmu
      have HF1 := Lib.hid F1
      have HR1 := Lib.hid (hr1.symm.trans hrun)
      have HE := Lib.hid hend
      have HL := Lib.hid hle
      have HN := Lib.hid hn
      have HX := Lib.hid hx
      have HQ := Lib.hid (hl_no q8)
      have hn6 : n ≤ 1000001 := by omega
      clear hmu F1 hr1 hend hr hf hle hrun hn hx hS hh
      go_wp2_with fail
      refine CL.out.mono ?_
      rintro e w2 ⟨rfl, hr2, hm2⟩
      have R2 := Lib.hid hr2
      have N2 := Lib.hid (HN.out.mv hm2 (by have := HB.out; omega) (by simp))
      have X2 := Lib.hid (show Bx w2 (w.heap.size + 1) 33 [.slice none 0 0, .slice none 0 0, .slice none 0 0, .int .i64 0, .int .i64 0, .int .i64 0] from (hm2.block _ HX.out.lt (by have := HB.out; omega) (by simp)).trans HX.out)
      clear hr2 hm2 CL q8
      by_cases he : e1 = 0
      · subst he
        go_wp2_with fail
        go_roundw
        case rel => exact ⟨s1, n + 1, by go_num, R2.out, HF1.out, by have := HM.out; have := HL.out; omega, by have := HR1.out; simpa using this, N2.out, X2.out⟩
        case measure =>
          have h1 := hl_le w2 b
          have h2 := HQ.out
          have h3 := HL.out
          have h4 := HM.out
          simp only [intOf]; omega
      · go_wp2_with fail
        go_roundw
        case rel => exact ⟨s1, n, rfl, R2.out, HF1.out, by have := HM.out; have := HL.out; omega, by have := HR1.out; rw [if_neg he] at this; exact this, N2.out, X2.out⟩
        case measure =>
          have q9 := R2.out.hltCell
          rw [HE.out he] at q9
          have h1 := hl_yes q9
          have h2 := HQ.out
          simp only [intOf]; omega
    | true =>
      rw [hh] at q8
      rw [run_hlt hh] at hrun
      obtain ⟨_, _, _, q2, q3, q4, ⟨B2, n2, d2, rfl⟩, ⟨B3, n3, d3, rfl⟩, ⟨B4, n4, d4, rfl⟩, him⟩ := hr.imS
      have q5 := hr.pcCell
      have q9 := hr.fltCell
      have HRn := Lib.hid hrun
      have f0 := hx.frozen 0
      have f1 := hx.frozen 1
      have f2 := hx.frozen 2
      have f3 := hx.frozen 3
      have f4 := hx.frozen 4
      have f5 := hx.frozen 5
      have z0 := hx.cell 0 rfl
      have z1 := hx.cell 1 rfl
      have z2 := hx.cell 2 rfl
      have z3 := hx.cell 3 rfl
      have z4 := hx.cell 4 rfl
      have z5 := hx.cell 5 rfl
      have HI := Lib.hid him
      have HX := Lib.hid hx
      have HN := Lib.hid hn
      clear hr hf hle hrun hn hx him hh
      go_wp2_with fail
      go_region
      have M := (((((((Mv.refl (w.heap.size + 1) none wr).set 0 (.slice B2 n2 d2)).set 1 (.slice B3 n3 d3)).set 2 (.slice B4 n4 d4)).set 3 (.int .i64 (n : Int))).set 4 (.int .i64 (s.pc : Int))).set 5 (.int .i64 s.flt)).nx ((Nx.refl _).drew)
      have X' := ((((((HX.out.put 0 (.slice B2 n2 d2)).put 1 (.slice B3 n3 d3)).put 2 (.slice B4 n4 d4)).put 3 (.int .i64 (n : Int))).put 4 (.int .i64 (s.pc : Int))).put 5 (.int .i64 s.flt)).nx ((Nx.refl _).drew)
      have y0 := X'.cell 0 rfl
      have y1 := X'.cell 1 rfl
      have y2 := X'.cell 2 rfl
      have y3 := X'.cell 3 rfl
      have y4 := X'.cell 4 rfl
      have y5 := X'.cell 5 rfl
      have hI := Lib.hid (HI.out.mv HX.out (by simp) M)
      have hN := Lib.hid (HN.out.mv M (by omega) (by simp))
      clear X' M z0 z1 z2 z3 z4 z5 q2 q3 q4 q5 q8 q9 f0 f1 f2 f3 f4 f5
      go_wp2
      generalize World.drew _ = V at *
      refine bodyPost_ret (by simp [results, Try.results14, go_sem, y0, y1, y2, y3, y4, y5]; try rfl) rfl ?_
      rw [← HRn.out]
      exact ⟨_, _, _, rfl, hI.out, hN.out⟩
end
section
open Go.RowKit

theorem infoIns : (Try.prog.info? 53).map (fun i => (i.zero, i.size, i.bytes)) = some (some (.agg #[.int .i64 0, .int .i64 0, .int .i64 0, .int .i64 0]), 4, 32) := by kernel_rfl
/-- The cells of a program. -/
def ins : List In4 → List Value
  | [] => []
  | x :: l => .int .i64 x.op :: .int .i64 x.k :: .int .i64 x.n :: .int .i64 x.t :: ins l
theorem ins_len (l : List In4) : (ins l).length = l.length * 4 := by
  induction l with
  | nil => rfl
  | cons x l ih => simp only [ins, List.length_cons, ih]; omega
theorem ins_at (l : List In4) : ∀ (j : Nat) (u : Value), (ins l)[j]? = some u → ∃ i x, l[i]? = some x ∧ ((j = i * 4 ∧ u = .int .i64 x.op) ∨ (j = i * 4 + 1 ∧ u = .int .i64 x.k) ∨ (j = i * 4 + 2 ∧ u = .int .i64 x.n) ∨ (j = i * 4 + 3 ∧ u = .int .i64 x.t)) := by
  induction l with
  | nil => intro j u h; simp [ins] at h
  | cons x l ih =>
    intro j u h
    rcases j with _ | _ | _ | _ | j
    · exact ⟨0, x, rfl, .inl ⟨rfl, (Option.some.inj h).symm⟩⟩
    · exact ⟨0, x, rfl, .inr (.inl ⟨rfl, (Option.some.inj h).symm⟩)⟩
    · exact ⟨0, x, rfl, .inr (.inr (.inl ⟨rfl, (Option.some.inj h).symm⟩))⟩
    · exact ⟨0, x, rfl, .inr (.inr (.inr ⟨rfl, (Option.some.inj h).symm⟩))⟩
    · obtain ⟨i, y, hy, hc⟩ := ih j u h
      refine ⟨i + 1, y, hy, ?_⟩
      rcases hc with ⟨rfl, e⟩ | ⟨rfl, e⟩ | ⟨rfl, e⟩ | ⟨rfl, e⟩
      · exact .inl ⟨by omega, e⟩
      · exact .inr (.inl ⟨by omega, e⟩)
      · exact .inr (.inr (.inl ⟨by omega, e⟩))
      · exact .inr (.inr (.inr ⟨by omega, e⟩))
theorem ins_get (l : List In4) : ∀ (k : Nat) (x : In4), l[k]? = some x → (ins l)[k * 4]? = some (.int .i64 x.op) ∧ (ins l)[k * 4 + 1]? = some (.int .i64 x.k) ∧ (ins l)[k * 4 + 2]? = some (.int .i64 x.n) ∧ (ins l)[k * 4 + 3]? = some (.int .i64 x.t) := by
  induction l with
  | nil => intro k x h; simp at h
  | cons y l ih =>
    intro k x h
    cases k with
    | zero => obtain rfl := Option.some.inj h; exact ⟨rfl, rfl, rfl, rfl⟩
    | succ k =>
      obtain ⟨h1, h2, h3, h4⟩ := ih k x h
      have e : (k + 1) * 4 = k * 4 + 1 + 1 + 1 + 1 := by omega
      rw [e]
      exact ⟨h1, h2, h3, h4⟩
theorem ins_one (l : List In4) : ∀ u ∈ ins l, u.oneCell' = true := fun u hu => by
  obtain ⟨j, hj⟩ := List.getElem?_of_mem hu
  obtain ⟨i, x, _, hc⟩ := ins_at l j u hj
  rcases hc with ⟨_, rfl⟩ | ⟨_, rfl⟩ | ⟨_, rfl⟩ | ⟨_, rfl⟩ <;> rfl
theorem ins_src {w : World} {ad : Addr} {l : List In4} (h : RdC w (some ad) l) : ∀ j u, (ins l)[j]? = some u → w.cell? (ad.add j) = some u := fun j u hj => by
  obtain ⟨i, x, hx, hc⟩ := ins_at l j u hj
  obtain ⟨ad', e, h1, h2, h3, h4⟩ := h i x hx
  obtain rfl := Option.some.inj e
  rcases hc with ⟨rfl, rfl⟩ | ⟨rfl, rfl⟩ | ⟨rfl, rfl⟩ | ⟨rfl, rfl⟩
  · exact h1
  · exact h2
  · exact h3
  · exact h4
/-- A slice value of the call's own that reads as a program. -/
def OwC (w : World) (B : Nat) (v : Value) (code : List In4) : Prop := w.ownsRow B 53 4 v code.length (ins code)
theorem OwC.nx {w w' : World} {B : Nat} {v : Value} {code : List In4} (h : OwC w B v code) (k : Nx w w') : OwC w' B v code := own_of h fun g _ hg => k.block g hg
theorem OwC.rd {w : World} {B : Nat} {v : Value} {code : List In4} (h : OwC w B v code) : ∃ A c, v = .slice A code.length c ∧ RdC w A code ∧ (∀ ad, A = some ad → ad.block < w.heap.size ∧ B ≤ ad.block) ∧ (A = none → c = 0) := by
  unfold OwC at h
  rcases h.2 with ⟨rfl, h0⟩ | ⟨g, cap, cur, rfl, hg, hcur, _⟩
  · obtain rfl := List.eq_nil_of_length_eq_zero h0
    exact ⟨none, 0, rfl, fun k x hk => by simp at hk, (fun ad e => by cases e), fun _ => rfl⟩
  · refine ⟨_, _, rfl, fun k x hk => ?_, fun ad e => ?_, fun e => by cases e⟩
    · obtain ⟨h1, h2, h3, h4⟩ := ins_get code k x hk
      have hc := World.ownsRow.cells h (g := g) rfl
      exact ⟨_, rfl, hc _ _ h1, hc _ _ h2, hc _ _ h3, hc _ _ h4⟩
    · obtain rfl := Option.some.inj e
      exact ⟨(Array.getElem?_eq_some_iff.1 hcur).1, hg⟩
theorem own_lowC {w : World} {B B' : Nat} {v : Value} {n : Nat} {ys : List Value} (h : w.ownsRow B 53 4 v n ys) (hb : B' ≤ B) : w.ownsRow B' 53 4 v n ys := by
  obtain ⟨h1, h2⟩ := h
  refine ⟨h1, ?_⟩
  rcases h2 with hn | ⟨g', cap, cur, e, hg, rest⟩
  · exact .inl hn
  · exact .inr ⟨g', cap, cur, e, Nat.le_trans hb hg, rest⟩
/-- append(an empty slice of the call's own, a program ...). -/
theorem wp_freshC {o : Oper} {a1 : Act} {w1 : World} {K : Act → World → Prop} {Q : Exit → Act → World → Prop} (s x : Operand)
    (ho : o.op = .call { callee := .builtin .append, args := #[s, x], argTypes := #[22, 22] }) (B g : Nat) (hs : a1.eval s = .slice (some ⟨g, 0, none⟩) 0 0)
    (hg : w1.ownsRow B 53 4 (.slice (some ⟨g, 0, none⟩) 0 0) 0 []) (A : Option Addr) (c : Nat) (code : List In4) (hx : a1.eval x = .slice A code.length c) (hr : RdC w1 A code) (hc : A = none → c = 0) (hm : code.length ≤ 1000000)
    (hB : B ≤ w1.heap.size) (h : ∀ v w2, Nx w1 w2 → OwC w2 B v code → K (a1.put o.dst v) w2) : o.wp Try.prog a1 w1 K Q := by
  obtain ⟨i0, h2, hz0, hz1, hz2⟩ := info_parts infoIns
  cases A with
  | none =>
    obtain rfl := hc rfl
    have hxs : code = [] := by
      cases code with
      | nil => rfl
      | cons b l => obtain ⟨ad, e, _⟩ := hr 0 b rfl; cases e
    subst hxs
    have hrun := run_append_owned_none (P := Try.prog) (w := w1) B 22 o.type 53 i0 4 Try.underlying22 h2 _ 0 [] hg
    unfold Oper.wp
    simp [execOp, ho, resolve, invoke, builtin, hs, hx, hrun, Result.andThen]
    exact h _ _ (Nx.refl _) hg
  | some ad =>
    by_cases h0 : code.length = 0
    · obtain rfl := List.eq_nil_of_length_eq_zero h0
      have hrun := run_append_room_cells (P := Try.prog) w1 22 o.type 53 i0 Try.underlying22 h2 g 0 0 0 ad 0 c [] (by simp) (by simp) (by simp) (Nat.le_refl _) (by simp) (by simp)
      unfold Oper.wp
      simp [execOp, ho, resolve, invoke, builtin, hs, hx, hrun, Result.andThen]
      exact h _ _ (Nx.refl _) hg
    · obtain ⟨v', w', hrun, r1, r2⟩ := run_append_arg_grows (P := Try.prog) w1 22 o.type 53 i0 (.agg #[.int .i64 0, .int .i64 0, .int .i64 0, .int .i64 0]) 4 32 Try.underlying22 h2 hz0 hz1 hz2 rfl (by decide) ⟨g, 0, none⟩ 0 0 [] (by simp) (by simp) ad code.length c (ins code) (ins_len code) (ins_src hr) (by omega) (by unfold maxLen; omega) (by omega)
      unfold Oper.wp
      simp [execOp, ho, resolve, invoke, builtin, hs, hx, hrun, Result.andThen]
      rw [Nat.zero_add, List.nil_append] at r1
      exact h v' w' (Below.grown (Nx.refl _) r2 (Nat.le_refl _) (fun _ e => by cases e)) (own_lowC r1 hB)
end
section
open Go.RowKit
variable {F : Nat → Prop}

/-- A block that an image reads in is there. -/
theorem Im.offLe {w : World} {A : Option Addr} {m c b : Nat} {xs : List Bool} (h : Im w A m c xs) (hb : w.heap.size ≤ b) : Off b A xs.length := fun h0 ad e => by
  obtain ⟨ad', e', hc⟩ := h.1 0 _ (List.getElem?_eq_getElem h0)
  obtain rfl := Option.some.inj (e.symm.trans e')
  have := World.block_lt_of_cell? w _ hc
  rw [show (ad.add (0 : Nat)).block = ad.block by unfold Addr.add; split <;> rfl] at this
  omega
/-- The machine at its beginning. -/
def mc0 (x1 x2 x3 : List Bool) : Mc := ⟨x1, x2, x3, 0, false, [], false, 0⟩
/-- The ten cells, before they lie in a block. -/
def NewV (w : World) (B : Nat) (v : Value) (code : List In4) (inp x1 x2 x3 : List Bool) : Prop := ∃ Ac Ai Aq Am Ae cc ci cq cm ce, v = .agg (rmc Ac Ai Aq Am Ae none cc ci cq cm ce 0 code.length inp (mc0 x1 x2 x3)).toArray ∧
  (RdC w Ac code ∧ ∀ ad, Ac = some ad → ad.block < w.heap.size ∧ B ≤ ad.block) ∧ ImB w B Ai inp.length ci inp ∧ ImB w B Aq x1.length cq x1 ∧ ImB w B Am x2.length cm x2 ∧ ImB w B Ae x3.length ce x3
theorem NewV.nx {w w' : World} {B : Nat} {v : Value} {code : List In4} {inp x1 x2 x3 : List Bool} (h : NewV w B v code inp x1 x2 x3) (k : Nx w w') : NewV w' B v code inp x1 x2 x3 := by
  obtain ⟨Ac, Ai, Aq, Am, Ae, cc, ci, cq, cm, ce, rfl, ⟨h1, h2⟩, h3, h4, h5, h6⟩ := h
  exact ⟨Ac, Ai, Aq, Am, Ae, cc, ci, cq, cm, ce, rfl, ⟨h1.nx k, fun ad e => ⟨Nat.lt_of_lt_of_le (h2 ad e).1 k.size, (h2 ad e).2⟩⟩, h3.nx k, h4.nx k, h5.nx k, h6.nx k⟩
theorem ImB.farF {w : World} {B b : Nat} {A : Option Addr} {c : Nat} {x : List Bool} (h : ImB w B A x.length c x) (hF : ∀ k, F k → k < B) (hb : w.heap.size ≤ b) : OffF F b A x.length :=
  ⟨h.1.offLe hb, fun h0 ad e hk => by have := h.2 h0 ad e; have := hF _ hk; omega⟩
theorem rm_new {B : Nat} {w : World} {Ac Ai Aq Am Ae : Option Addr} {cc ci cq cm ce : Nat} {code : List In4} {inp x1 x2 x3 : List Bool} (h1 : RdC w Ac code) (h2 : ∀ ad, Ac = some ad → ad.block < w.heap.size ∧ B ≤ ad.block) (h3 : ImB w B Ai inp.length ci inp)
    (h4 : ImB w B Aq x1.length cq x1) (h5 : ImB w B Am x2.length cm x2) (h6 : ImB w B Ae x3.length ce x3) (hF : ∀ k, F k → k < B) (hB : B ≤ w.heap.size) :
    RM F (w.alloc (.cells (rmc Ac Ai Aq Am Ae none cc ci cq cm ce 0 code.length inp (mc0 x1 x2 x3)).toArray 48)) w.heap.size code inp (mc0 x1 x2 x3) := by
  have k : Nx w (w.alloc (.cells (rmc Ac Ai Aq Am Ae none cc ci cq cm ce 0 code.length inp (mc0 x1 x2 x3)).toArray 48)) := Nx.one _ _
  refine ⟨Ac, Ai, Aq, Am, Ae, none, cc, ci, cq, cm, ce, 0, bx_new w _ _, ⟨h1.nx k, (fun _ ad e => by have := h2 ad e; omega), fun _ ad e hk => by have := h2 ad e; have := hF _ hk; omega⟩, ⟨h3.1.nx k, h3.farF hF (Nat.le_refl _)⟩, ⟨h4.1.nx k, h4.farF hF (Nat.le_refl _)⟩, ⟨h5.1.nx k, h5.farF hF (Nat.le_refl _)⟩, ⟨h6.1.nx k, h6.farF hF (Nat.le_refl _)⟩, ?_⟩
  exact ⟨⟨⟨fun i x hx => by simp [mc0] at hx, rfl, fun _ => rfl⟩, ⟨fun h0 => absurd h0 (by simp [mc0]), fun h0 => absurd h0 (by simp [mc0])⟩⟩, Nat.le_refl _, fun j hj => Nat.lt_of_lt_of_le (hF j hj) (Nat.le_trans hB k.size)⟩
def psiN (F : Nat → Prop) (B : Nat) (Ac Ai A1 A2 A3 : Option Addr) (cc ni ci m1 c1 m2 c2 m3 c3 : Nat) (code : List In4) (inp x1 x2 x3 : List Bool) (j : Nat) (v : Value) (w : World) : Prop := match j with
  | 0 => ∃ g, v = .slice (some ⟨g, 0, none⟩) 0 0 ∧ w.ownsRow B 53 4 v 0 []
  | 1 => v = .slice Ac code.length cc
  | 2 => OwC w B v code
  | 3 => ∃ g, v = .slice (some ⟨g, 0, none⟩) 0 0 ∧ w.ownsRow B 4 1 v 0 []
  | 4 => v = .slice Ai ni ci
  | 5 => Ow w B v inp
  | 6 => v = .agg #[.slice A1 m1 c1, .slice A2 m2 c2, .slice A3 m3 c3]
  | 7 => OD w B v x1 x2 x3
  | 8 => NewV w B v code inp x1 x2 x3
  | 9 => ∃ b, v = .pointer (some ⟨b, 0, none⟩) ∧ B ≤ b ∧ RM F w b code inp (mc0 x1 x2 x3)
  | 10 => ∃ b, v = .pointer (some ⟨b, 0, none⟩) ∧ B ≤ b ∧ RM F w b code inp (mc0 x1 x2 x3)
  | _ => False

set_option maxHeartbeats 3200000 in
set_option maxRecDepth 100000 in
theorem refNew_ok (code : List In4) (inp x1 x2 x3 : List Bool) (hcl : code.length ≤ 1000000) (Ac Ai A1 A2 A3 : Option Addr) (cc ni ci m1 c1 m2 c2 m3 c3 : Nat) (hni : ni ≤ 1000000) (hm1 : m1 ≤ 1000000) (hm2 : m2 ≤ 1000000) (hm3 : m3 ≤ 1000000) (w : World)
    (hc : RdC w Ac code) (hcn : Ac = none → cc = 0) (hi : Im w Ai ni ci inp) (h1 : Im w A1 m1 c1 x1) (h2 : Im w A2 m2 c2 x2) (h3 : Im w A3 m3 c3 x3) (hFw : ∀ k, F k → k < w.heap.size) :
    Calls Try.prog 23 #[.slice Ac code.length cc, .slice Ai ni ci, .agg #[.slice A1 m1 c1, .slice A2 m2 c2, .slice A3 m3 c3]] w (fun e w' => ∃ b, e = .returned (.pointer (some ⟨b, 0, none⟩)) ∧ RM F w' b code inp (mc0 x1 x2 x3) ∧ w.heap.size ≤ b ∧ Nx w w') := by
  have C0 := Lib.hid hc
  have I0 := Lib.hid hi
  have I1 := Lib.hid h1
  have I2 := Lib.hid h2
  have I3 := Lib.hid h3
  have HL := Lib.hid hcl
  have HC := Lib.hid hcn
  have HFW := Lib.hid (fun k hk => Nat.lt_of_lt_of_le (hFw k hk) (Nx.one w (.cells #[.slice A1 m1 c1, .slice A2 m2 c2, .slice A3 m3 c3] 25)).size)
  clear hc hi h1 h2 h3 hcl hcn hFw
  have N0 := Lib.hid (Nx.one w (.cells #[.slice A1 m1 c1, .slice A2 m2 c2, .slice A3 m3 c3] 25))
  have XS := Lib.hid (bx_new w 25 [.slice A1 m1 c1, .slice A2 m2 c2, .slice A3 m3 c3])
  go_enter Try.func23, Try.ntmps23
  go_wp2_with fail
  generalize w.alloc (.cells #[.slice A1 m1 c1, .slice A2 m2 c2, .slice A3 m3 c3] 25) = W at *
  refine wp_region_free (by kernel_rfl) (by kernel_rfl) (by kernel_rfl) (fun u v => Nx u v) (fun _ _ k => k) (fun _ _ _ => Nx.trans) 11 (fun _ => True)
    (psiN F W.heap.size Ac Ai A1 A2 A3 cc ni ci m1 c1 m2 c2 m3 c3 code inp x1 x2 x3) ?_ ?_ (fun _ _ _ h => h) trivial ?_ ?_
  · intro j v u u' hj k hp
    unfold psiN at hp ⊢
    split at hp
    case h_1 =>
      obtain ⟨g, e, ho⟩ := hp
      subst e
      exact ⟨g, rfl, World.ownsRow.kept ho (k.grown none) (.inr (by simp [Value.ownBlock]))⟩
    case h_3 => exact hp.nx k
    case h_4 => obtain ⟨g, e, ho⟩ := hp; exact ⟨g, e, Ow.nx (xs := []) ho k⟩
    case h_6 => exact Ow.nx hp k
    case h_8 => exact hp.nx k
    case h_9 => exact hp.nx k
    case h_10 => obtain ⟨b, e, hb, hr⟩ := hp; exact ⟨b, e, hb, hr.nx k⟩
    case h_11 => obtain ⟨b, e, hb, hr⟩ := hp; exact ⟨b, e, hb, hr.nx k⟩
    all_goals exact hp
  · intro v u u' k hp
    exact absurd hp (by simp [psiN])
  · intro i o ho a1 w1 K hF hJ hR hE hK
    have f0 : a1.tmps[0]?.getD undef = .slice Ac code.length cc := tmp_of (hF.2.2 0 (by kernel_rfl))
    have f1 : a1.tmps[1]?.getD undef = .slice Ai ni ci := tmp_of (hF.2.2 1 (by kernel_rfl))
    have f5 : a1.tmps[5]?.getD undef = .pointer (some ⟨w.heap.size, 0, none⟩) := tmp_of (hF.2.2 5 (by kernel_rfl))
    have XS1 := XS.out.nx hR
    have s0 := XS1.cell 0 rfl
    have s1 := XS1.cell 1 rfl
    have s2 := XS1.cell 2 rfl
    have hNW := N0.out.trans hR
    have hsz := hR.size
    rcases i with _ | _ | _ | _ | _ | _ | _ | _ | _ | _ | _ | i
    · obtain rfl := Option.some.inj ho
      have hK0 := Lib.hid hK
      clear hK hE hF hR hJ
      unfold Oper.wp
      go_simp
      exact hK0.out _ _ (fun _ => Nx.one _ _) (fun h => by cases h) ⟨_, rfl, own_lowC (World.ownsRow_lit (base := w1.heap.size) (e := 53) (size := 4) w1 #[] 0 (Nat.le_refl _) (by unfold maxLen; omega) rfl) hsz⟩ (fun h => by cases h)
    · obtain rfl := Option.some.inj ho
      have hK0 := Lib.hid hK
      clear hK hE hF hR hJ
      unfold Oper.wp
      go_simp
      exact hK0.out _ _ (fun _ => Nx.refl _) (fun h => by cases h) rfl (fun h => by cases h)
    · obtain rfl := Option.some.inj ho
      obtain ⟨g, e1, ho1⟩ : ∃ g, a1.tmps.getD 7 undef = .slice (some ⟨g, 0, none⟩) 0 0 ∧ w1.ownsRow W.heap.size 53 4 (a1.tmps.getD 7 undef) 0 [] := hE ⟨0, .data⟩ (by simp) rfl
      rw [e1] at ho1
      have e2 : a1.tmps.getD 8 undef = .slice Ac code.length cc := hE ⟨1, .data⟩ (by simp) rfl
      exact wp_freshC (.tmp 7) (.tmp 8) rfl W.heap.size g e1 ho1 Ac cc code e2 (C0.out.nx hNW) HC.out HL.out hsz (fun v w2 hn hw => hK v w2 (fun _ => hn) (fun h => by cases h) hw (fun h => by cases h))
    · obtain rfl := Option.some.inj ho
      have hK0 := Lib.hid hK
      clear hK hE hF hR hJ
      unfold Oper.wp
      go_simp
      exact hK0.out _ _ (fun _ => Nx.one _ _) (fun h => by cases h) ⟨_, rfl, own_low (World.ownsRow_lit (base := w1.heap.size) (e := 4) (size := 1) w1 #[] 0 (Nat.le_refl _) (by unfold maxLen; omega) rfl) hsz⟩ (fun h => by cases h)
    · obtain rfl := Option.some.inj ho
      have hK0 := Lib.hid hK
      clear hK hE hF hR hJ
      unfold Oper.wp
      go_simp
      exact hK0.out _ _ (fun _ => Nx.refl _) (fun h => by cases h) rfl (fun h => by cases h)
    · obtain rfl := Option.some.inj ho
      obtain ⟨g, e1, ho1⟩ : ∃ g, a1.tmps.getD 10 undef = .slice (some ⟨g, 0, none⟩) 0 0 ∧ w1.ownsRow W.heap.size 4 1 (a1.tmps.getD 10 undef) 0 [] := hE ⟨3, .data⟩ (by simp) rfl
      rw [e1] at ho1
      have e2 : a1.tmps.getD 11 undef = .slice Ai ni ci := hE ⟨4, .data⟩ (by simp) rfl
      exact wp_fresh (.tmp 10) (.tmp 11) rfl W.heap.size g e1 ho1 hsz Ai ni ci inp e2 (I0.out.nx hNW) hni (fun v w2 hn hw _ => hK v w2 (fun _ => hn) (fun h => by cases h) hw (fun h => by cases h))
    · obtain rfl := Option.some.inj ho
      have hK0 := Lib.hid hK
      clear hK hE hF hR hJ
      unfold Oper.wp
      go_simp
      exact hK0.out _ _ (fun _ => Nx.refl _) (fun h => by cases h) rfl (fun h => by cases h)
    · obtain rfl := Option.some.inj ho
      have e13 : a1.tmps[13]?.getD undef = .agg #[.slice A1 m1 c1, .slice A2 m2 c2, .slice A3 m3 c3] := tmp_of (show a1.tmps.getD 13 undef = _ from hE ⟨6, .data⟩ (by simp) rfl)
      have CL := Lib.hid (refClone_ok A1 A2 A3 m1 m2 m3 c1 c2 c3 x1 x2 x3 hm1 hm2 hm3 w1 (I1.out.nx hNW) (I2.out.nx hNW) (I3.out.nx hNW))
      have hK0 := Lib.hid hK
      clear hK hE hF hR hJ
      unfold Oper.wp
      go_simp
      refine CL.out.mono ?_
      rintro e w2 ⟨v, rfl, hv, hn⟩
      exact hK0.out v w2 (fun _ => hn) (fun h => by cases h) (hv.low hsz) (fun h => by cases h)
    · obtain rfl := Option.some.inj ho
      obtain ⟨A1', c1', e1, r1, r2, _⟩ := OwC.rd (show OwC w1 W.heap.size (a1.tmps.getD 9 undef) code from hE ⟨2, .data⟩ (by simp) rfl)
      obtain ⟨A2', c2', e2, r3⟩ := Ow.imB (show Ow w1 W.heap.size (a1.tmps.getD 12 undef) inp from hE ⟨5, .data⟩ (by simp) rfl)
      obtain ⟨v1, v2, v3, e3, o1, o2, o3⟩ := OD.os (show OD w1 W.heap.size (a1.tmps.getD 14 undef) x1 x2 x3 from hE ⟨7, .data⟩ (by simp) rfl)
      obtain ⟨B1', d1', rfl, i1⟩ := o1.imB
      obtain ⟨B2', d2', rfl, i2⟩ := o2.imB
      obtain ⟨B3', d3', rfl, i3⟩ := o3.imB
      have g1 := tmp_of e1
      have g2 := tmp_of e2
      have g3 := tmp_of e3
      have R := Lib.hid (show NewV w1 W.heap.size (.agg #[.slice A1' code.length c1', .slice A2' inp.length c2', .slice B1' x1.length d1', .slice B2' x2.length d2', .slice B3' x3.length d3', .int .i64 0, .bool false, .slice none 0 0, .bool false, .int .i64 0]) code inp x1 x2 x3 from
        ⟨_, _, _, _, _, _, _, _, _, _, rfl, ⟨r1, r2⟩, r3, i1, i2, i3⟩)
      have hK0 := Lib.hid hK
      clear hK hE hF hR hJ r1 r2 r3 i1 i2 i3 o1 o2 o3
      unfold Oper.wp
      go_simp
      exact hK0.out _ _ (fun _ => Nx.refl _) (fun h => by cases h) R.out (fun h => by cases h)
    · obtain rfl := Option.some.inj ho
      obtain ⟨Bc, Bi, Bq, Bm, Be, kc, ki, kq, km, ke, e1, ⟨r1, r2⟩, r3, r4, r5, r6⟩ : NewV w1 W.heap.size (a1.tmps.getD 15 undef) code inp x1 x2 x3 := hE ⟨8, .data⟩ (by simp) rfl
      have g1 := tmp_of e1
      have R := Lib.hid (rm_new (cc := kc) r1 r2 r3 r4 r5 r6 HFW.out hsz)
      have hK0 := Lib.hid hK
      clear hK hE hF hR hJ r1 r2 r3 r4 r5 r6
      unfold rmc mc0 at g1 R
      unfold Oper.wp
      go_simp
      exact hK0.out _ _ (fun _ => Nx.one _ _) (fun h => by cases h) ⟨_, rfl, hsz, R.out⟩ (fun h => by cases h)
    · obtain rfl := Option.some.inj ho
      obtain ⟨b, e1, hb, hr⟩ : ∃ b, a1.tmps.getD 16 undef = .pointer (some ⟨b, 0, none⟩) ∧ W.heap.size ≤ b ∧ RM F w1 b code inp (mc0 x1 x2 x3) := hE ⟨9, .data⟩ (by simp) rfl
      have g1 := tmp_of e1
      have HR := Lib.hid hr
      have hK0 := Lib.hid hK
      clear hK hE hF hR hJ hr
      unfold Oper.wp
      go_simp
      exact hK0.out _ _ (fun _ => Nx.refl _) (fun h => by cases h) ⟨_, rfl, hb, HR.out⟩ (fun h => by cases h)
    · cases ho
  · intro a1 w1 hF hJ hR hP
    have fd : a1.defers = [] := hF.1
    obtain ⟨b, e1, hb, hr⟩ : ∃ b, a1.tmps.getD 6 undef = .pointer (some ⟨b, 0, none⟩) ∧ W.heap.size ≤ b ∧ RM F w1 b code inp (mc0 x1 x2 x3) := hP 10 (by decide)
    have g1 := tmp_of e1
    have HR := Lib.hid hr
    have HN := Lib.hid (N0.out.trans hR)
    have HB := Lib.hid (Nat.le_trans N0.out.size hb)
    clear hF hJ hR hP hr
    go_wp2
    try simp only [Exit.inBlock, Exit.then]
    refine bodyPost_ret (by simp [results, Try.results23, go_sem, g1]; try rfl) fd ?_
    exact ⟨_, rfl, HR.out, HB.out, HN.out⟩

theorem refRun_any (code : List In4) (inp x1 x2 x3 : List Bool) (hcl : code.length ≤ 1000000) (hx : x1.length ≤ 1000000 ∧ x2.length ≤ 1000000 ∧ x3.length ≤ 1000000) (Ac Ai A1 A2 A3 : Option Addr) (cc ni ci m1 c1 m2 c2 m3 c3 : Nat) (hni : ni ≤ 1000000) (hm1 : m1 ≤ 1000000) (hm2 : m2 ≤ 1000000) (hm3 : m3 ≤ 1000000) (w : World)
    (hc : RdC w Ac code) (hcn : Ac = none → cc = 0) (hi : Im w Ai ni ci inp) (h1 : Im w A1 m1 c1 x1) (h2 : Im w A2 m2 c2 x2) (h3 : Im w A3 m3 c3 x3) :
    Calls Try.prog 14 #[.slice Ac code.length cc, .slice Ai ni ci, .agg #[.slice A1 m1 c1, .slice A2 m2 c2, .slice A3 m3 c3]] w (RunPost code inp (mc0 x1 x2 x3) w) := by
  refine refRun_of (F := fun _ => False) code inp (mc0 x1 x2 x3) ⟨⟨hx, by simp [mc0], by simp [mc0]⟩, by simp [mc0], hcl⟩ (by simp [mu, mc0]) Ac Ai A1 A2 A3 _ _ _ _ _ _ _ _ _ _ w fun w1 k => ?_
  exact refNew_ok code inp x1 x2 x3 hcl Ac Ai A1 A2 A3 cc ni ci m1 c1 m2 c2 m3 c3 hni hm1 hm2 hm3 w1 (hc.nx k) hcn (hi.nx k) (h1.nx k) (h2.nx k) (h3.nx k) (fun _ h => h.elim)
end
end Go.Proofs.Ytmijfipggggdfaa
