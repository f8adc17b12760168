/- A valid program does not fault: each step of a run from a state of the program's sizes. No condition. -/
import Derived.Test.YtdpccnpaajhliaaGreatDoorING
import Derived.Test.YtdpccnpaajhliaaGreatDoorMD
import Derived.Test.YtdpccnpaajhliaaGreatDoorMJ
namespace Go.Proofs.YtdpccnpaajhliaaGreatDoor
open Go.RowKit

theorem chk_parts {i q m e o k n t a b : Int} (h : chk i q m e o k n t a b = 0) :
    (0 ≤ o ∧ o ≤ 16) ∧ ((1 ≤ frm o ∧ frm o ≤ 3) → cad i q m k n = 0) ∧ (frm o = 3 → k ≠ 0) ∧ (frm o = 2 → 0 ≤ t ∧ t < e) ∧ (frm o = 4 → 0 ≤ t ∧ t < b ∧ a < t) := by
  unfold chk chk1 at h
  split at h
  · omega
  · split at h
    · omega
    · rename_i hf
      have ho : 0 ≤ o ∧ o ≤ 16 := by
        unfold frm at hf
        split at hf
        · exact absurd rfl hf
        · omega
      split at h
      · omega
      · split at h
        · rename_i hc
          exact absurd h hc.2
        · rename_i hc
          unfold chk2 at h
          split at h
          · omega
          · split at h
            · omega
            · split at h
              · omega
              · split at h
                · omega
                · refine ⟨ho, fun h1 => ?_, fun h1 h2 => ?_, fun h1 => ?_, fun h1 => ?_⟩
                  · by_cases hz : cad i q m k n = 0
                    · exact hz
                    · exact absurd ⟨h1, hz⟩ hc
                  · rename_i g1 _ _ _
                    exact g1 ⟨h1, h2⟩
                  · omega
                  · omega
theorem cad_rd {inp xq xm : List Bool} {i q m k n : Int} (hi : (inp.length : Int) = i) (hq : (xq.length : Int) = q) (hm : (xm.length : Int) = m) (h : cad i q m k n = 0) :
    rdSE inp xq xm k n = 0 ∧ (k ≠ 0 → wrE xq xm k n = 0) := by
  subst hi hq hm
  unfold cad at h
  split at h
  · rename_i hs
    have hk : 0 ≤ k ∧ k < 3 := by simpa [isSp] using hs
    split at h
    · rename_i hn
      have hk3 : k = 0 ∨ k = 1 ∨ k = 2 := by omega
      rcases hk3 with rfl | rfl | rfl
      · have hn' : 0 ≤ n ∧ n < (inp.length : Int) := hn
        exact ⟨by unfold rdSE rdE; rw [if_pos rfl, if_pos hn'], fun h => absurd rfl h⟩
      · have hn' : 0 ≤ n ∧ n < (xq.length : Int) := hn
        exact ⟨by unfold rdSE rdE; rw [if_neg (by decide), if_pos rfl, if_pos hn'], fun _ => by unfold wrE rdE; rw [if_pos rfl, if_pos hn']⟩
      · have hn' : 0 ≤ n ∧ n < (xm.length : Int) := hn
        exact ⟨by unfold rdSE rdE; rw [if_neg (by decide), if_neg (by decide), if_pos rfl, if_pos hn'], fun _ => by unfold wrE rdE; rw [if_neg (by decide), if_pos rfl, if_pos hn']⟩
    · omega
  · omega
/-- What holds of a machine that runs a valid program and hasn't halted. -/
structure Sn (q m e : Int) (code : List In4) (s : Mc) : Prop where
  hq : (s.q.length : Int) = q
  hm : (s.m.length : Int) = m
  he : (s.e.length : Int) = e
  hh : s.hlt = false
  hf : s.flt = 0
  pc : s.pc < code.length
  st : s.stk.length = dAt code s.pc
theorem dAt_small {i q m e : Int} {code : List In4} (h : Vd i q m e code) {k : Nat} (hk : k < code.length) : dAt code k ≤ 64 := dAt_le (by omega) fun j hj => h.dp j (by omega)
theorem sn_ok {i q m e : Int} {code : List In4} (h : Vd i q m e code) {inp : List Bool} (hi : (inp.length : Int) = i) {s : Mc} (hs : Sn q m e code s) {x : In4} (hx : code[s.pc]? = some x) : insE inp code.length s x = 0 := by
  have hc := h.ck s.pc hs.pc
  rw [ckF_at hx] at hc
  obtain ⟨ho, p1, p2, p3, p4⟩ := chk_parts hc
  have hd := h.dp s.pc hs.pc
  rw [dFl_at hx] at hd
  have hsm := dAt_small h hs.pc
  have hst := hs.st
  unfold insE
  by_cases c1 : 0 ≤ x.op ∧ x.op ≤ 5
  · rw [if_pos c1]
    have hf : frm x.op = 1 := by unfold frm; rw [if_neg (by omega), if_pos c1.2]
    exact (cad_rd hi hs.hq hs.hm (p1 (by omega))).1
  rw [if_neg c1]
  by_cases c2 : x.op = 6 ∨ x.op = 7
  · rw [if_pos c2]
    have hf : frm x.op = 2 := by unfold frm; rw [if_neg (by omega), if_neg (by omega), if_pos (by omega)]
    have hb : bitE inp s x = 0 := (cad_rd hi hs.hq hs.hm (p1 (by omega))).1
    have ht := p3 hf
    have hel := hs.he
    rw [if_neg (by omega), if_neg (by omega)]
  rw [if_neg c2]
  by_cases c3 : x.op = 8
  · rw [if_pos c3]
    unfold dEr at hd
    rw [if_pos c3] at hd
    by_cases h64 : dAt code s.pc = 64
    · rw [if_pos h64] at hd; omega
    · rw [if_neg (by omega)]
  rw [if_neg c3]
  by_cases c4 : x.op = 9 ∨ x.op = 10
  · rw [if_pos c4]
    unfold dEr at hd
    rw [if_neg c3, if_pos c4] at hd
    by_cases h0 : dAt code s.pc = 0
    · rw [if_pos h0] at hd; omega
    · rw [if_neg (by omega)]
  rw [if_neg c4]
  by_cases c5 : 11 ≤ x.op ∧ x.op ≤ 14
  · rw [if_pos c5]
    have hf : frm x.op = 3 := by unfold frm; rw [if_neg (by omega), if_neg (by omega), if_neg (by omega), if_pos c5]
    exact (cad_rd hi hs.hq hs.hm (p1 (by omega))).2 (p2 hf)
  rw [if_neg c5]
  by_cases c6 : x.op = 15
  · rw [if_pos c6]
    have hf : frm x.op = 4 := by rw [c6]; decide
    have ht := p4 hf
    rw [if_neg (by omega), if_neg (by omega)]
  rw [if_neg c6, if_pos (by omega)]
theorem insD_stk7 {inp : List Bool} {s : Mc} {x : In4} : (insD inp s x).stk.length = (if x.op = 8 then s.stk.length + 1 else if x.op = 9 ∨ x.op = 10 then s.stk.length - 1 else s.stk.length) := by
  unfold insD
  by_cases c1 : 0 ≤ x.op ∧ x.op ≤ 5
  · rw [if_pos c1, if_neg (by omega), if_neg (by omega)]
  rw [if_neg c1]
  by_cases c2 : x.op = 6 ∨ x.op = 7
  · rw [if_pos c2, if_neg (by omega), if_neg (by omega)]
  rw [if_neg c2]
  by_cases c3 : x.op = 8
  · rw [if_pos c3, if_pos c3]; simp
  rw [if_neg c3, if_neg c3]
  by_cases c4 : x.op = 9
  · rw [if_pos c4, if_pos (.inl c4)]; simp
  rw [if_neg c4]
  by_cases c5 : x.op = 10
  · rw [if_pos c5, if_pos (.inr c5)]; simp
  have c6 : ¬ (x.op = 9 ∨ x.op = 10) := by omega
  rw [if_neg c5, if_neg c6]
  split
  · split <;> rfl
  · split <;> rfl
theorem insD_hlt7 {inp : List Bool} {s : Mc} {x : In4} (h : x.op ≠ 16) : (insD inp s x).hlt = s.hlt := by
  unfold insD
  split
  · rfl
  · split
    · rfl
    · split
      · rfl
      · split
        · rfl
        · split
          · rfl
          · split
            · split <;> rfl
            · first | rfl | rw [if_neg h]
theorem stp_pc7 {code : List In4} {inp : List Bool} {s : Mc} (hh : s.hlt = false) (h1 : (stp code inp s).1.hlt = false) : s.pc < (stp code inp s).1.pc := by
  by_cases hp : code.length ≤ s.pc
  · rw [stp_off hh hp] at h1; cases h1
  · have hx : code[s.pc]? = some code[s.pc] := List.getElem?_eq_getElem (by omega)
    by_cases hE : insE inp code.length s code[s.pc] = 0
    · rw [stp_ok hh hx hE] at h1 ⊢
      by_cases h16 : code[s.pc].op = 16
      · rw [insD_16 h16] at h1; cases h1
      · exact (insP_gt hE h16 (by omega)).1
    · rw [stp_no hh hx hE] at h1; cases h1
/-- One step of a valid program: no fault; it halts at end alone, and else all goes on as it did. -/
theorem sn_step {i q m e : Int} {code : List In4} (h : Vd i q m e code) {inp : List Bool} (hi : (inp.length : Int) = i) {s : Mc} (hs : Sn q m e code s) :
    (stp code inp s).2.2 = 0 ∧ ((opA code s.pc = 16 ∧ (stp code inp s).1.hlt = true ∧ (stp code inp s).2.1 = false ∧ (stp code inp s).1.flt = 0 ∧ (stp code inp s).1.pc = s.pc ∧ (stp code inp s).1.stk.length = dAt code s.pc) ∨
      (Sn q m e code (stp code inp s).1 ∧ (stp code inp s).2.1 = true ∧ s.pc < (stp code inp s).1.pc)) := by
  obtain ⟨x, hx⟩ : ∃ x, code[s.pc]? = some x := ⟨_, List.getElem?_eq_getElem hs.pc⟩
  have hE := sn_ok h hi hs hx
  have hop := opA_at hx
  have hlen := stp_len (code := code) (inp := inp) (s := s)
  have hpc0 := stp_pc7 (code := code) (inp := inp) hs.hh
  rw [stp_ok hs.hh hx hE] at hlen hpc0 ⊢
  refine ⟨rfl, ?_⟩
  by_cases h16 : x.op = 16
  · left
    refine ⟨hop.trans h16, by simp only [insD_16 h16], by simp only [insD_16 h16]; rfl, ?_, ?_, ?_⟩
    · exact nf_ins.trans hs.hf
    · exact insP_16 h16
    · show (insD inp s x).stk.length = _
      rw [insD_stk7, if_neg (by omega), if_neg (by omega)]; exact hs.st
  · right
    have hh : (insD inp s x).hlt = false := (insD_hlt7 h16).trans hs.hh
    have hpc1 := hpc0 hh
    refine ⟨⟨by rw [hlen.1]; exact hs.hq, by rw [hlen.2.1]; exact hs.hm, by rw [hlen.2.2]; exact hs.he, hh, nf_ins.trans hs.hf, ?_, ?_⟩, by simp only [hh]; rfl, hpc1⟩
    · show insP s x < code.length
      unfold insP
      by_cases hj : x.op = 15 ∧ s.acc = true
      · rw [if_pos hj]
        have := h.jump hx hj.1
        omega
      · rw [if_neg hj, if_neg h16]
        have hla := h.la
        have : s.pc ≠ code.length - 1 := fun he => by rw [← he, hop] at hla; exact h16 hla
        have := hs.pc
        omega
    · show (insD inp s x).stk.length = dAt code (insP s x)
      unfold insP
      by_cases hj : x.op = 15 ∧ s.acc = true
      · rw [if_pos hj, insD_stk7, if_neg (by omega), if_neg (by omega), hs.st]
        have hjp := h.jp s.pc hs.pc
        rw [jpF_at hx] at hjp
        by_cases hbad : x.op = 15 ∧ (dAt code s.pc ≠ 0 ∨ dAt code x.t.toNat ≠ 0)
        · rw [if_pos hbad] at hjp; omega
        · have h1 : dAt code s.pc = 0 := by
            by_cases hz : dAt code s.pc = 0
            · exact hz
            · exact absurd ⟨hj.1, .inl hz⟩ hbad
          have h2 : dAt code x.t.toNat = 0 := by
            by_cases hz : dAt code x.t.toNat = 0
            · exact hz
            · exact absurd ⟨hj.1, .inr hz⟩ hbad
          rw [h1, h2]
      · rw [if_neg hj, if_neg h16, insD_stk7, dAt_succ hx, hs.st]
        rfl
theorem sn_start {i q m e : Int} {code : List In4} (h : Vd i q m e code) {x1 x2 x3 : List Bool} (h1 : (x1.length : Int) = q) (h2 : (x2.length : Int) = m) (h3 : (x3.length : Int) = e) : Sn q m e code (mc0 x1 x2 x3) :=
  ⟨h1, h2, h3, rfl, rfl, h.pos, by rw [show (mc0 x1 x2 x3).pc = 0 from rfl, dAt_zero]; rfl⟩
/-- The run of a valid program. -/
theorem sn_run {i q m e : Int} {code : List In4} (h : Vd i q m e code) {inp : List Bool} (hi : (inp.length : Int) = i) : ∀ (f : Nat) (s : Mc) (n : Nat), Sn q m e code s → mu code s ≤ f →
    (run code inp s n).1.flt = 0 ∧ opA code (run code inp s n).1.pc = 16 ∧ (run code inp s n).1.pc < code.length ∧ n + 1 ≤ (run code inp s n).2 := by
  intro f
  induction f with
  | zero => intro s n hs hm; unfold mu at hm; rw [hs.hh] at hm; simp at hm
  | succ f ih =>
    intro s n hs hm
    obtain ⟨h0, hc⟩ := sn_step h hi hs
    rw [run_step hs.hh, if_pos h0]
    rcases hc with ⟨g1, g2, _, g3, g4, _⟩ | ⟨g1, _, _⟩
    · rw [run_hlt g2]
      exact ⟨g3, by rw [g4]; exact g1, by rw [g4]; exact hs.pc, Nat.le_refl _⟩
    · have hmu := stp_mu (code := code) (inp := inp) hs.hh
      obtain ⟨a, b, c, d⟩ := ih _ (n + 1) g1 (by omega)
      exact ⟨a, b, c, by omega⟩
theorem mx_le (code : List In4) {k : Nat} (hk : k < code.length) : dAt code k ≤ mxD code := by
  have key : ∀ (l : List Nat) (a x : Nat), (x ∈ l ∨ x ≤ a) → x ≤ l.foldl max a := by
    intro l
    induction l with
    | nil => intro a x h; rcases h with h | h; cases h; exact h
    | cons y l ih =>
      intro a x h
      rw [List.foldl_cons]
      refine ih _ _ ?_
      rcases h with h | h
      · rcases List.mem_cons.1 h with h | h
        · right; omega
        · left; exact h
      · right; omega
  exact key _ _ _ (.inl (List.mem_map.2 ⟨k, List.mem_range.2 hk, rfl⟩))
end Go.Proofs.YtdpccnpaajhliaaGreatDoor
