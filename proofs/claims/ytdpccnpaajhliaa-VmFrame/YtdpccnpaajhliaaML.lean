/- How a program among the arguments of stage 6's laws reads. No condition. What tooLarge of layer 6's laws returns. No condition. Plain facts on runs: their steps, their frame, inputs that are not read, the programs of two laws. The program of the law on the branch stack, run. Condition: at most 60 bits. The walk of the law that compares runs, the contracts of the program's Run and of alive given. No condition beyond these. The walk of the law on loads and combinations, the contracts of the program's Run and of alive given. Condition: these. The walk of the law on jumps, the contracts of the program's Run and of alive given. Condition: these. Conditions: as each theorem states them. -/
import Derived.Test.YtdpccnpaajhliaaIBase3
import Derived.Test.YtdpccnpaajhliaaMD
import Derived.Deep.Slices
import Derived.Deep.Strs
import Derived.ChangeSame
import Derived.Test.YtdpccnpaajhliaaMB
namespace Go.Proofs.Ytdpccnpaajhliaa
section
open Go.ChangeShapes Go.WideShapes Go.ChangeAt Go.RowKit Go.Joins

instance : Inhabited In4 := ⟨⟨0, 0, 0, 0⟩⟩
theorem cellsIns6 : Try.prog.cellsOf 28 = 4 := by kernel_rfl
theorem cellsAddr6 : Try.prog.cellsOf 26 = 2 := by kernel_rfl
theorem cells36 : Try.prog.cellsOf 3 = 1 := by kernel_rfl
set_option maxRecDepth 100000 in
theorem open_code {H : Type} {enc : TypeId × Value → H} {W : World} {base : Nat} {v : Value} {d : DataW H} {p : List MemPlace}
    (hv : Value.okWide Try.prog W .any base 24 v) (h : DataW.Trod enc Try.prog W 0 (fun _ => true) true 24 v d p) :
    ∃ (A : Option Addr) (code : List In4) (m c : Nat), v = .slice A m c ∧ code.length = m ∧ RdC W A code ∧ (A = none → c = 0) := by
  obtain ⟨a0, len, cap, rfl⟩ := okWide_slice Try.underlying24 hv
  obtain ⟨fuel, hf⟩ := h
  rcases Deep.open_slice Try.underlying24 hf with ⟨hcs, _⟩ | ⟨a, len', cap', m', n', D, Pl, hcs, _, hl, hm, hmm, _, hx⟩
  · simp [Value.cells] at hcs
    obtain ⟨rfl, rfl, rfl⟩ := hcs
    exact ⟨none, [], 0, 0, rfl, rfl, fun k a hk => by simp at hk, fun _ => rfl⟩
  · simp [Value.cells] at hcs
    obtain ⟨rfl, rfl, rfl⟩ := hcs
    have hlm : len ≤ m' := by rw [hmm]; simp; exact hl
    have each : ∀ i, i < len → ∃ x : In4, W.cell? (a.add (i * 4)) = some (.int .i64 x.op) ∧ W.cell? (a.add (i * 4 + 1)) = some (.int .i64 x.k) ∧ W.cell? (a.add (i * 4 + 2)) = some (.int .i64 x.n) ∧ W.cell? (a.add (i * 4 + 3)) = some (.int .i64 x.t) := by
      intro i hi
      obtain ⟨cs', g1, g2⟩ := hx i (by omega)
      rw [cellsIns6] at g1
      obtain ⟨_, hlen, hcell⟩ := World.cells?_some g1
      obtain ⟨y0, y1, y2, m, _, _, h0, h1, h2⟩ := Go.Deep.trod_struct3 Try.underlying28 g2
      obtain ⟨b0, b1, b2, b3, rfl⟩ := four_of hlen
      obtain ⟨n0, e0, _, _⟩ := Go.DataW.trod_int Try.underlying3 h0
      obtain ⟨z0, z1, m1, _, _, q0, q1⟩ := trod_struct2 Try.underlying26 h1
      obtain ⟨n1, e1, _, _⟩ := Go.DataW.trod_int Try.underlying3 q0
      obtain ⟨n2, e2, _, _⟩ := Go.DataW.trod_int Try.underlying3 q1
      obtain ⟨n3, e3, _, _⟩ := Go.DataW.trod_int Try.underlying3 h2
      rw [cells36] at e0 e1 e2 e3
      rw [cellsAddr6] at e1 e2
      simp at e0 e1 e2 e3
      subst e0 e1 e2 e3
      have c0 := hcell 0 (by omega)
      have c1 := hcell 1 (by omega)
      have c2 := hcell 2 (by omega)
      have c3 := hcell 3 (by omega)
      rw [Addr.add_add] at c0 c1 c2 c3
      exact ⟨⟨n0, n1, n2, n3⟩, c0, c1, c2, c3⟩
    obtain ⟨q, hq⟩ := Deep.choose_lt each
    refine ⟨some a, (List.range len).map q, len, cap, rfl, by simp, fun k x hk => ?_, fun e => by cases e⟩
    have hlt : k < len := by have := (List.getElem?_eq_some_iff.1 hk).1; simpa using this
    rw [List.getElem?_map, List.getElem?_range hlt] at hk
    simp only [Option.map_some, Option.some.injEq] at hk
    subst hk
    exact ⟨a, rfl, hq k hlt⟩
end
section
open Go.RowKit

/-- Are the arguments small? -/
def sm6 (nc ni m1 m2 m3 : Nat) : Prop := nc ≤ 300 ∧ ni ≤ 500 ∧ sm m1 m2 m3
set_option maxHeartbeats 1600000 in
set_option maxRecDepth 100000 in
theorem large6_no (Ac Ai A1 A2 A3 : Option Addr) (nc cc ni ci m1 m2 m3 c1 c2 c3 : Nat) (h : sm6 nc ni m1 m2 m3) (w : World) :
    Calls Try.prog 7 #[.slice Ac nc cc, .slice Ai ni ci, .agg #[.slice A1 m1 c1, .slice A2 m2 c2, .slice A3 m3 c3]] w fun e w' => e = .returned (.bool false) ∧ Nx w w' := by
  obtain ⟨hc, hi, hs⟩ := h
  have t0 : ¬ (300 : Int) < (nc : Int) := by omega
  have t1 : ¬ (500 : Int) < (ni : Int) := by omega
  have N0 := Lib.hid (Nx.one w (.cells #[.slice A1 m1 c1, .slice A2 m2 c2, .slice A3 m3 c3] 31))
  have XS := bx_new w 31 [.slice A1 m1 c1, .slice A2 m2 c2, .slice A3 m3 c3]
  have x0 := XS.cell 0 rfl
  have x1 := XS.cell 1 rfl
  have x2 := XS.cell 2 rfl
  have HS := Lib.hid hs
  clear XS hs hc hi
  go_enter Try.func7, Try.ntmps7
  go_wp2_with fail
  clear x0 x1 x2
  have HZ := Lib.hid (show (w.alloc (.cells #[.slice A1 m1 c1, .slice A2 m2 c2, .slice A3 m3 c3] 31)).heap.size = w.heap.size + 1 by simp)
  generalize w.alloc (.cells #[.slice A1 m1 c1, .slice A2 m2 c2, .slice A3 m3 c3] 31) = W at *
  have k1 := Lib.hid (Nx.one W (.cells #[.slice A1 m1 c1, .slice A2 m2 c2, .slice A3 m3 c3] 31))
  have LG := large1_no W.heap.size A1 A2 A3 m1 m2 m3 c1 c2 c3 HS.out _ (bx_new W 31 [.slice A1 m1 c1, .slice A2 m2 c2, .slice A3 m3 c3])
  rw [HZ.out] at LG
  refine LG.mono ?_
  clear LG
  rintro e w1 ⟨rfl, hn⟩
  have N1 := Lib.hid ((N0.out.trans k1.out).trans hn)
  clear hn
  go_wp2_with fail
  go_ret
  exact ⟨rfl, N1.out⟩
set_option maxHeartbeats 1600000 in
set_option maxRecDepth 100000 in
theorem large6_yes (Ac Ai A1 A2 A3 : Option Addr) (nc cc ni ci m1 m2 m3 c1 c2 c3 : Nat) (h : ¬ sm6 nc ni m1 m2 m3) (w : World) :
    Calls Try.prog 7 #[.slice Ac nc cc, .slice Ai ni ci, .agg #[.slice A1 m1 c1, .slice A2 m2 c2, .slice A3 m3 c3]] w fun e w' => e = .returned (.bool true) ∧ Nx w w' := by
  have N0 := Lib.hid (Nx.one w (.cells #[.slice A1 m1 c1, .slice A2 m2 c2, .slice A3 m3 c3] 31))
  have XS := bx_new w 31 [.slice A1 m1 c1, .slice A2 m2 c2, .slice A3 m3 c3]
  have x0 := XS.cell 0 rfl
  have x1 := XS.cell 1 rfl
  have x2 := XS.cell 2 rfl
  clear XS
  by_cases b0 : 300 < nc
  · have t0 : (300 : Int) < (nc : Int) := by omega
    clear h b0
    go_enter Try.func7, Try.ntmps7
    go_wp2_with fail
    go_ret
    exact ⟨rfl, N0.out⟩
  have t0 : ¬ (300 : Int) < (nc : Int) := by omega
  by_cases b1 : 500 < ni
  · have t1 : (500 : Int) < (ni : Int) := by omega
    clear h b0 b1
    go_enter Try.func7, Try.ntmps7
    go_wp2_with fail
    go_ret
    exact ⟨rfl, N0.out⟩
  have t1 : ¬ (500 : Int) < (ni : Int) := by omega
  have HS := Lib.hid (show ¬ sm m1 m2 m3 from fun k => h ⟨by omega, by omega, k⟩)
  clear h b0 b1
  go_enter Try.func7, Try.ntmps7
  go_wp2_with fail
  clear x0 x1 x2
  have HZ := Lib.hid (show (w.alloc (.cells #[.slice A1 m1 c1, .slice A2 m2 c2, .slice A3 m3 c3] 31)).heap.size = w.heap.size + 1 by simp)
  generalize w.alloc (.cells #[.slice A1 m1 c1, .slice A2 m2 c2, .slice A3 m3 c3] 31) = W at *
  have k1 := Lib.hid (Nx.one W (.cells #[.slice A1 m1 c1, .slice A2 m2 c2, .slice A3 m3 c3] 31))
  have LG := large1_yes W.heap.size A1 A2 A3 m1 m2 m3 c1 c2 c3 HS.out _ (bx_new W 31 [.slice A1 m1 c1, .slice A2 m2 c2, .slice A3 m3 c3])
  rw [HZ.out] at LG
  refine LG.mono ?_
  clear LG
  rintro e w1 ⟨rfl, hn⟩
  have N1 := Lib.hid ((N0.out.trans k1.out).trans hn)
  clear hn
  go_wp2_with fail
  go_ret
  exact ⟨rfl, N1.out⟩
end
section
open Go.RowKit

theorem stp_cases {code : List In4} {inp : List Bool} {s : Mc} (hh : s.hlt = false) :
    (code.length ≤ s.pc ∧ stp code inp s = ({ s with hlt := true, flt := 5 }, false, 5)) ∨
    (∃ x, code[s.pc]? = some x ∧ s.pc < code.length ∧ insE inp code.length s x ≠ 0 ∧ stp code inp s = ({ s with hlt := true, flt := insE inp code.length s x }, false, insE inp code.length s x)) ∨
    (∃ x, code[s.pc]? = some x ∧ s.pc < code.length ∧ insE inp code.length s x = 0 ∧ stp code inp s = ({ insD inp s x with pc := insP s x }, !(insD inp s x).hlt, 0)) := by
  by_cases ho : code.length ≤ s.pc
  · exact .inl ⟨ho, stp_off hh ho⟩
  · have hx : code[s.pc]? = some code[s.pc] := List.getElem?_eq_getElem (by omega)
    by_cases hE : insE inp code.length s code[s.pc] = 0
    · exact .inr (.inr ⟨_, hx, by omega, hE, stp_ok hh hx hE⟩)
    · exact .inr (.inl ⟨_, hx, by omega, hE, stp_no hh hx hE⟩)
/-- What every step keeps, a run keeps. -/
theorem runF_ind {code : List In4} {inp : List Bool} {P : Mc → Nat → Prop} (step : ∀ s n, s.hlt = false → P s n → P (stp code inp s).1 (if (stp code inp s).2.2 = 0 then n + 1 else n)) :
    ∀ f s n, P s n → P (runF code inp f s n).1 (runF code inp f s n).2 := by
  intro f
  induction f with
  | zero => intro s n h; exact h
  | succ f ih =>
    intro s n h
    cases hh : s.hlt with
    | true => rw [runF_hlt hh]; exact h
    | false => rw [runF_step hh]; exact ih _ _ (step s n hh h)
theorem runF_end {code : List In4} {inp : List Bool} : ∀ f s n, mu code s ≤ f → (runF code inp f s n).1.hlt = true := by
  intro f
  induction f with
  | zero =>
    intro s n h
    cases hh : s.hlt with
    | true => rw [runF_hlt hh]; exact hh
    | false => unfold mu at h; rw [hh] at h; simp at h
  | succ f ih =>
    intro s n h
    cases hh : s.hlt with
    | true => rw [runF_hlt hh]; exact hh
    | false =>
      have hm := stp_mu (code := code) (inp := inp) hh
      rw [runF_step hh]
      exact ih _ _ (by omega)
theorem run_end (code : List In4) (inp : List Bool) (s : Mc) (n : Nat) : (run code inp s n).1.hlt = true := runF_end _ _ _ (Nat.le_refl _)

/-- No more steps than instructions. -/
theorem run_le (code : List In4) (inp x1 x2 x3 : List Bool) : (run code inp (mc0 x1 x2 x3) 0).2 ≤ code.length ∧ (run code inp (mc0 x1 x2 x3) 0).1.pc ≤ code.length := by
  have := runF_ind (code := code) (inp := inp) (P := fun s n => s.pc ≤ code.length ∧ n ≤ code.length ∧ (s.hlt = false → n ≤ s.pc)) (fun s n hh h => ?_) (mu code (mc0 x1 x2 x3)) (mc0 x1 x2 x3) 0 ⟨Nat.zero_le _, Nat.zero_le _, fun _ => Nat.zero_le _⟩
  · exact ⟨this.2.1, this.1⟩
  · obtain ⟨h1, h2, h3⟩ := h
    have h4 := h3 hh
    rcases stp_cases (code := code) (inp := inp) hh with ⟨_, e⟩ | ⟨x, hx, hlt, hE, e⟩ | ⟨x, hx, hlt, hE, e⟩
    · rw [e]; exact ⟨h1, h2, fun h => by cases h⟩
    · rw [e]; simp only [if_neg hE]; exact ⟨h1, h2, fun h => by cases h⟩
    · rw [e]
      simp only [if_pos]
      by_cases h16 : x.op = 16
      · rw [insP_16 h16, insD_16 h16]
        exact ⟨h1, by omega, fun h => by cases h⟩
      · have hg := insP_gt hE h16 hlt
        exact ⟨hg.2, by omega, fun _ => by omega⟩
theorem stp_len {code : List In4} {inp : List Bool} {s : Mc} : (stp code inp s).1.q.length = s.q.length ∧ (stp code inp s).1.m.length = s.m.length ∧ (stp code inp s).1.e.length = s.e.length := by
  cases hh : s.hlt with
  | true => rw [stp_hlt hh]; exact ⟨rfl, rfl, rfl⟩
  | false =>
    rcases stp_cases (code := code) (inp := inp) hh with ⟨_, e⟩ | ⟨x, hx, hlt, hE, e⟩ | ⟨x, hx, hlt, hE, e⟩
    · rw [e]; exact ⟨rfl, rfl, rfl⟩
    · rw [e]; exact ⟨rfl, rfl, rfl⟩
    · rw [e]; exact insD_len inp s x
theorem run_len (code : List In4) (inp : List Bool) (s : Mc) (n : Nat) : (run code inp s n).1.q.length = s.q.length ∧ (run code inp s n).1.m.length = s.m.length ∧ (run code inp s n).1.e.length = s.e.length :=
  runF_ind (P := fun t _ => t.q.length = s.q.length ∧ t.m.length = s.m.length ∧ t.e.length = s.e.length) (fun t n _ h => by
    have := stp_len (code := code) (inp := inp) (s := t)
    exact ⟨this.1.trans h.1, this.2.1.trans h.2.1, this.2.2.trans h.2.2⟩) _ s n ⟨rfl, rfl, rfl⟩

/-- Bits that no instruction writes. -/
theorem insD_q {inp : List Bool} {len : Nat} {s : Mc} {x : In4} {i : Nat} (hE : insE inp len s x = 0) (hw : 11 ≤ x.op → x.op ≤ 14 → ¬ (x.k = 1 ∧ x.n = (i : Int))) : (insD inp s x).q[i]? = s.q[i]? := by
  by_cases c : 11 ≤ x.op ∧ x.op ≤ 14
  · have hd : insD inp s x = if coW x.op s.acc then { s with q := wrQ s.q x.k x.n (coV x.op s.acc), m := wrM s.m x.k x.n (coV x.op s.acc) } else s := by
      unfold insD
      rw [if_neg (by omega), if_neg (by omega), if_neg (by omega), if_neg (by omega), if_neg (by omega), if_pos c]
    have he : insE inp len s x = wrE s.q s.m x.k x.n := by
      unfold insE
      rw [if_neg (by omega), if_neg (by omega), if_neg (by omega), if_neg (by omega), if_pos c]
    rw [hd]
    split
    · show (wrQ s.q x.k x.n (coV x.op s.acc))[i]? = _
      unfold wrQ
      split
      · rename_i hk
        rw [he] at hE
        unfold wrE at hE
        rw [if_pos hk] at hE
        unfold rdE at hE
        split at hE
        · rename_i hr
          have := hw c.1 c.2
          rw [List.getElem?_set_ne (by omega)]
        · cases hE
      · rfl
    · rfl
  · unfold insD
    repeat' split
    all_goals first | rfl | omega
theorem insD_m {inp : List Bool} {len : Nat} {s : Mc} {x : In4} {i : Nat} (hE : insE inp len s x = 0) (hw : 11 ≤ x.op → x.op ≤ 14 → ¬ (x.k = 2 ∧ x.n = (i : Int))) : (insD inp s x).m[i]? = s.m[i]? := by
  by_cases c : 11 ≤ x.op ∧ x.op ≤ 14
  · have hd : insD inp s x = if coW x.op s.acc then { s with q := wrQ s.q x.k x.n (coV x.op s.acc), m := wrM s.m x.k x.n (coV x.op s.acc) } else s := by
      unfold insD
      rw [if_neg (by omega), if_neg (by omega), if_neg (by omega), if_neg (by omega), if_neg (by omega), if_pos c]
    have he : insE inp len s x = wrE s.q s.m x.k x.n := by
      unfold insE
      rw [if_neg (by omega), if_neg (by omega), if_neg (by omega), if_neg (by omega), if_pos c]
    rw [hd]
    split
    · show (wrM s.m x.k x.n (coV x.op s.acc))[i]? = _
      unfold wrM
      split
      · rename_i hk
        rw [he] at hE
        unfold wrE at hE
        rw [if_neg (by omega), if_pos hk] at hE
        unfold rdE at hE
        split at hE
        · rename_i hr
          have := hw c.1 c.2
          rw [List.getElem?_set_ne (by omega)]
        · cases hE
      · rfl
    · rfl
  · unfold insD
    repeat' split
    all_goals first | rfl | omega
theorem insD_e {inp : List Bool} {len : Nat} {s : Mc} {x : In4} {i : Nat} (hE : insE inp len s x = 0) (hw : x.op = 6 ∨ x.op = 7 → x.t ≠ (i : Int)) : (insD inp s x).e[i]? = s.e[i]? := by
  by_cases c : x.op = 6 ∨ x.op = 7
  · have hd : insD inp s x = { s with acc := edA x.op (bitV inp s x) (s.e.getD x.t.toNat false), e := s.e.set x.t.toNat (bitV inp s x) } := by
      unfold insD
      rw [if_neg (by omega), if_pos c]
    have he : insE inp len s x = if bitE inp s x ≠ 0 then bitE inp s x else if x.t < 0 ∨ (s.e.length : Int) ≤ x.t then 3 else 0 := by
      unfold insE
      rw [if_neg (by omega), if_pos c]
    rw [hd]
    show (s.e.set x.t.toNat (bitV inp s x))[i]? = _
    rw [he] at hE
    have := hw c
    split at hE
    · rename_i hb; exact absurd hE hb
    · split at hE
      · cases hE
      · rw [List.getElem?_set_ne (by omega)]
  · unfold insD
    repeat' split
    all_goals first | rfl | omega
theorem run_frame (code : List In4) (inp : List Bool) (s0 : Mc) (n : Nat) (i : Nat) :
    ((∀ x ∈ code, 11 ≤ x.op → x.op ≤ 14 → ¬ (x.k = 1 ∧ x.n = (i : Int))) → (run code inp s0 n).1.q[i]? = s0.q[i]?) ∧
    ((∀ x ∈ code, 11 ≤ x.op → x.op ≤ 14 → ¬ (x.k = 2 ∧ x.n = (i : Int))) → (run code inp s0 n).1.m[i]? = s0.m[i]?) ∧
    ((∀ x ∈ code, x.op = 6 ∨ x.op = 7 → x.t ≠ (i : Int)) → (run code inp s0 n).1.e[i]? = s0.e[i]?) := by
  refine ⟨fun hw => ?_, fun hw => ?_, fun hw => ?_⟩
  · refine runF_ind (P := fun t _ => t.q[i]? = s0.q[i]?) (fun t n hh h => ?_) _ s0 n rfl
    rcases stp_cases (code := code) (inp := inp) hh with ⟨_, e⟩ | ⟨x, hx, hlt, hE, e⟩ | ⟨x, hx, hlt, hE, e⟩
    · rw [e]; exact h
    · rw [e]; exact h
    · rw [e]; exact (insD_q hE (hw x (List.mem_of_getElem? hx))).trans h
  · refine runF_ind (P := fun t _ => t.m[i]? = s0.m[i]?) (fun t n hh h => ?_) _ s0 n rfl
    rcases stp_cases (code := code) (inp := inp) hh with ⟨_, e⟩ | ⟨x, hx, hlt, hE, e⟩ | ⟨x, hx, hlt, hE, e⟩
    · rw [e]; exact h
    · rw [e]; exact h
    · rw [e]; exact (insD_m hE (hw x (List.mem_of_getElem? hx))).trans h
  · refine runF_ind (P := fun t _ => t.e[i]? = s0.e[i]?) (fun t n hh h => ?_) _ s0 n rfl
    rcases stp_cases (code := code) (inp := inp) hh with ⟨_, e⟩ | ⟨x, hx, hlt, hE, e⟩ | ⟨x, hx, hlt, hE, e⟩
    · rw [e]; exact h
    · rw [e]; exact h
    · rw [e]; exact (insD_e hE (hw x (List.mem_of_getElem? hx))).trans h

/-- Inputs that are not read do not matter. -/
theorem insE_inp {inp inp' : List Bool} (hl : inp.length = inp'.length) (len : Nat) (s : Mc) (x : In4) : insE inp len s x = insE inp' len s x := by
  have : bitE inp s x = bitE inp' s x := by unfold bitE rdSE rdE; rw [hl]
  unfold insE
  rw [this]
theorem insD_inp {inp inp' : List Bool} (hl : inp.length = inp'.length) (s : Mc) (x : In4) (ha : 0 ≤ x.op → x.op ≤ 7 → x.k = 0 → ∀ n : Nat, x.n = (n : Int) → inp[n]? = inp'[n]?) : insD inp s x = insD inp' s x := by
  have hv : 0 ≤ x.op → x.op ≤ 7 → bitV inp s x = bitV inp' s x := fun h0 h7 => by
    unfold bitV rdSV
    split
    · rename_i hk
      unfold rdV
      rw [hl]
      split
      · rename_i hr
        rw [List.getD_eq_getElem?_getD, List.getD_eq_getElem?_getD, ha h0 h7 hk x.n.toNat (by omega)]
      · rfl
    · rfl
  unfold insD
  by_cases c0 : 0 ≤ x.op ∧ x.op ≤ 5
  · rw [if_pos c0, if_pos c0, hv c0.1 (by omega)]
  · rw [if_neg c0, if_neg c0]
    by_cases c1 : x.op = 6 ∨ x.op = 7
    · rw [if_pos c1, if_pos c1, hv (by omega) (by omega)]
    · rw [if_neg c1, if_neg c1]
theorem stp_inp {inp inp' : List Bool} (hl : inp.length = inp'.length) {code : List In4} (ha : ∀ x ∈ code, 0 ≤ x.op → x.op ≤ 7 → x.k = 0 → ∀ n : Nat, x.n = (n : Int) → inp[n]? = inp'[n]?) (s : Mc) : stp code inp s = stp code inp' s := by
  unfold stp
  split
  · rfl
  · split
    · rfl
    · rename_i x hx
      rw [insE_inp hl, insD_inp hl s x (ha x (List.mem_of_getElem? hx))]
theorem run_inp {inp inp' : List Bool} (hl : inp.length = inp'.length) {code : List In4} (ha : ∀ x ∈ code, 0 ≤ x.op → x.op ≤ 7 → x.k = 0 → ∀ n : Nat, x.n = (n : Int) → inp[n]? = inp'[n]?) (s : Mc) (n : Nat) : run code inp s n = run code inp' s n := by
  have : ∀ f s n, runF code inp f s n = runF code inp' f s n := by
    intro f
    induction f with
    | zero => intro s n; rfl
    | succ f ih => intro s n; unfold runF; rw [stp_inp hl ha, ih]
  exact this _ _ _

/-- The program of the law on loads and combinations. -/
def boolCode (k : Int) : List In4 := [⟨0, 0, 0, 0⟩, ⟨k, 0, 1, 0⟩, ⟨11, 1, 0, 0⟩, ⟨12, 1, 1, 0⟩, ⟨16, 0, 0, 0⟩]
def boolWant (a b : Bool) (k : Nat) : Bool := if k / 2 = 0 then (b != (k % 2 == 1)) else if k / 2 = 1 then (a && (b != (k % 2 == 1))) else (a || (b != (k % 2 == 1)))
theorem bool_all : ((List.range 6).all fun k => [true, false].all fun a => [true, false].all fun b =>
    let r := run (boolCode k) [a, b] (mc0 [false, false] [] []) 0
    r.1.q == [boolWant a b k, !boolWant a b k] && r.1.flt == 0 && r.2 == 5) = true := by decide +kernel
/-- The program of the law on jumps. -/
def jmpCode (n : Nat) : List In4 := [⟨0, 0, 0, 0⟩, ⟨15, 0, 0, (2 : Int) + n⟩] ++ List.replicate n ⟨12, 1, 0, 0⟩ ++ [⟨16, 0, 0, 0⟩]
theorem jmp_all : ((List.range 50).all fun n => [true, false].all fun v =>
    let r := run (jmpCode n) [v] (mc0 [false] [] []) 0
    r.1.q == [!v && decide (0 < n)] && r.1.flt == 0 && r.2 == (if v then 3 else 3 + n) && r.1.pc == 2 + n) = true := by decide +kernel
end
section
open Go.RowKit

/-- Loads with pushes between them. -/
def brLoad : Nat → Nat → List In4
  | _, 0 => []
  | i, m + 1 => ⟨8, 0, 0, 0⟩ :: ⟨0, 0, i, 0⟩ :: brLoad (i + 1) m
theorem brLoad_len (i m : Nat) : (brLoad i m).length = 2 * m := by
  induction m generalizing i with
  | zero => rfl
  | succ m ih => simp only [brLoad, List.length_cons, ih]; omega
theorem brLoad_get (i m j : Nat) (h : j < m) : (brLoad i m)[2 * j]? = some ⟨8, 0, 0, 0⟩ ∧ (brLoad i m)[2 * j + 1]? = some ⟨0, 0, ((i + j : Nat) : Int), 0⟩ := by
  induction m generalizing i j with
  | zero => omega
  | succ m ih =>
    cases j with
    | zero => exact ⟨rfl, by simp [brLoad]⟩
    | succ j =>
      have := ih (i + 1) j (by omega)
      have e : 2 * (j + 1) = 2 * j + 1 + 1 := by omega
      rw [e]
      refine ⟨this.1, ?_⟩
      have e2 : i + (j + 1) = i + 1 + j := by omega
      rw [e2]
      exact this.2
/-- The whole program for so many bits (one at least): m + 1. -/
def brCode (m : Nat) (o : Int) : List In4 := ⟨0, 0, 0, 0⟩ :: (brLoad 1 m ++ (List.replicate m ⟨o, 0, 0, 0⟩ ++ [⟨11, 2, 0, 0⟩, ⟨16, 0, 0, 0⟩]))
theorem brCode_len (m : Nat) (o : Int) : (brCode m o).length = 3 * m + 3 := by simp [brCode, brLoad_len]; omega
theorem brCode_load (m : Nat) (o : Int) (j : Nat) (h : j < m) : (brCode m o)[1 + 2 * j]? = some ⟨8, 0, 0, 0⟩ ∧ (brCode m o)[1 + 2 * j + 1]? = some ⟨0, 0, ((1 + j : Nat) : Int), 0⟩ := by
  obtain ⟨h1, h2⟩ := brLoad_get 1 m j h
  have hl := brLoad_len 1 m
  have e : 1 + 2 * j = 2 * j + 1 := by omega
  rw [e]
  unfold brCode
  rw [List.getElem?_cons_succ, List.getElem?_cons_succ, List.getElem?_append_left (by omega), List.getElem?_append_left (by omega)]
  exact ⟨h1, h2⟩
theorem brCode_op (m : Nat) (o : Int) (j : Nat) (h : j < m) : (brCode m o)[1 + 2 * m + j]? = some ⟨o, 0, 0, 0⟩ := by
  have hl := brLoad_len 1 m
  have e : 1 + 2 * m + j = 2 * m + j + 1 := by omega
  rw [e]
  unfold brCode
  rw [List.getElem?_cons_succ, List.getElem?_append_right (by omega), List.getElem?_append_left (by simp; omega), hl]
  rw [List.getElem?_replicate, if_pos (by omega)]
theorem brCode_st (m : Nat) (o : Int) : (brCode m o)[1 + 3 * m]? = some ⟨11, 2, 0, 0⟩ ∧ (brCode m o)[1 + 3 * m + 1]? = some ⟨16, 0, 0, 0⟩ := by
  have hl := brLoad_len 1 m
  have e : 1 + 3 * m = 3 * m + 1 := by omega
  rw [e]
  unfold brCode
  rw [List.getElem?_cons_succ, List.getElem?_cons_succ, List.getElem?_append_right (by omega), List.getElem?_append_right (by simp; omega), List.getElem?_append_right (by omega), List.getElem?_append_right (by simp; omega), hl]
  simp only [List.length_replicate]
  have e1 : 3 * m - 2 * m - m = 0 := by omega
  have e2 : 3 * m + 1 - 2 * m - m = 1 := by omega
  rw [e1, e2]
  exact ⟨rfl, rfl⟩

theorem run_ok {code : List In4} {inp : List Bool} {s : Mc} {x : In4} (hh : s.hlt = false) (hx : code[s.pc]? = some x) (hE : insE inp code.length s x = 0) (n : Nat) : run code inp s n = run code inp { insD inp s x with pc := insP s x } (n + 1) := by
  rw [run_step hh, stp_ok hh hx hE]
  rfl
/-- All, or some. -/
def brF (o : Bool) (l : List Bool) : Bool := if o then l.any id else l.all id
theorem brF_cons (o : Bool) (b : Bool) (l : List Bool) : brF o (b :: l) = if o then (b || brF o l) else (b && brF o l) := by cases o <;> simp [brF]
theorem brF_one (o : Bool) (b : Bool) : brF o [b] = b := by cases o <;> simp [brF]
def brO (o : Bool) : Int := if o then 10 else 9
section
variable {l : List Bool} {m : Nat} {o : Bool}
theorem br_load (hl : l.length = m + 1) (hm : m ≤ 59) : ∀ j, j ≤ m → run (brCode m (brO o)) l (mc0 [] [false] []) 0 = run (brCode m (brO o)) l ⟨[], [false], [], 1 + 2 * j, l.getD j false, l.take j, false, 0⟩ (1 + 2 * j) := by
  intro j
  have ld : ∀ (i : Nat) (s : Mc) (n : Nat), i ≤ m → s.hlt = false → (brCode m (brO o))[s.pc]? = some ⟨0, 0, (i : Int), 0⟩ → run (brCode m (brO o)) l s n = run (brCode m (brO o)) l { s with acc := l.getD i false, pc := s.pc + 1 } (n + 1) := by
    intro i s n hi hh hx
    have hE : insE l (brCode m (brO o)).length s ⟨0, 0, (i : Int), 0⟩ = 0 := by
      show (if (0 : Int) ≤ 0 ∧ (0 : Int) ≤ 5 then rdE l (i : Int) else _) = 0
      rw [if_pos (by omega)]
      unfold rdE
      rw [if_pos (by omega)]
    rw [run_ok hh hx hE]
    have hv : bitV l s ⟨0, 0, (i : Int), 0⟩ = l.getD i false := by
      show rdV l (i : Int) = _
      unfold rdV
      rw [if_pos (by omega)]
      rfl
    have hd : insD l s ⟨0, 0, (i : Int), 0⟩ = { s with acc := l.getD i false } := by
      unfold insD
      rw [if_pos (by simp only; omega), hv]
      rfl
    rw [hd]
    rfl
  induction j with
  | zero =>
    intro _
    rw [ld 0 (mc0 [] [false] []) 0 (Nat.zero_le _) rfl rfl]
    rfl
  | succ j ih =>
    intro hj
    rw [ih (by omega)]
    obtain ⟨h1, h2⟩ := brCode_load m (brO o) j (by omega)
    have hE : insE l (brCode m (brO o)).length ⟨[], [false], [], 1 + 2 * j, l.getD j false, l.take j, false, 0⟩ ⟨8, 0, 0, 0⟩ = 0 := by
      show (if 64 ≤ (l.take j).length then (10 : Int) else 0) = 0
      rw [if_neg (by rw [List.length_take]; omega)]
    rw [run_ok rfl h1 hE]
    show run _ l ⟨[], [false], [], 1 + 2 * j + 1, l.getD j false, l.take j ++ [l.getD j false], false, 0⟩ (1 + 2 * j + 1) = _
    rw [ld (1 + j) ⟨[], [false], [], 1 + 2 * j + 1, l.getD j false, l.take j ++ [l.getD j false], false, 0⟩ _ (by omega) rfl h2]
    have e : l.take j ++ [l.getD j false] = l.take (j + 1) := by
      rw [List.take_add_one, List.getD_eq_getElem?_getD, List.getElem?_eq_getElem (by omega)]
      rfl
    have e1 : 1 + 2 * j + 1 + 1 = 1 + 2 * (j + 1) := by omega
    have e2 : 1 + j = j + 1 := by omega
    rw [e]
    simp only [e1, e2]
theorem br_ops (hl : l.length = m + 1) (hm : m ≤ 59) : ∀ j, j ≤ m → run (brCode m (brO o)) l (mc0 [] [false] []) 0 = run (brCode m (brO o)) l ⟨[], [false], [], 1 + 2 * m + j, brF o (l.drop (m - j)), l.take (m - j), false, 0⟩ (1 + 2 * m + j) := by
  intro j
  induction j with
  | zero =>
    intro _
    rw [br_load hl hm m (Nat.le_refl _)]
    have e : l.drop m = [l.getD m false] := by
      rw [List.drop_eq_getElem_cons (by omega), List.drop_eq_nil_of_le (by omega), List.getD_eq_getElem?_getD, List.getElem?_eq_getElem (by omega)]
      rfl
    rw [Nat.sub_zero, e, brF_one]
    rfl
  | succ j ih =>
    intro hj
    rw [ih (by omega)]
    have h1 := brCode_op m (brO o) j (by omega)
    obtain ⟨d, hd⟩ : ∃ d, m - j = d + 1 := ⟨m - j - 1, by omega⟩
    have hd' : m - (j + 1) = d := by omega
    rw [hd, hd']
    have hlt : d < l.length := by omega
    have et : l.take (d + 1) = l.take d ++ [l[d]] := by rw [List.take_add_one, List.getElem?_eq_getElem hlt]; rfl
    have ed : l.drop d = l[d] :: l.drop (d + 1) := List.drop_eq_getElem_cons hlt
    have hE : insE l (brCode m (brO o)).length ⟨[], [false], [], 1 + 2 * m + j, brF o (l.drop (d + 1)), l.take (d + 1), false, 0⟩ ⟨brO o, 0, 0, 0⟩ = 0 := by
      have h0 : ¬ (l.take (d + 1)).length = 0 := by rw [List.length_take]; omega
      cases o
      · show (if (l.take (d + 1)).length = 0 then (18 : Int) else 0) = 0
        rw [if_neg h0]
      · show (if (l.take (d + 1)).length = 0 then (18 : Int) else 0) = 0
        rw [if_neg h0]
    rw [run_ok rfl h1 hE, ed, brF_cons]
    cases o
    · show run _ l ⟨[], [false], [], 1 + 2 * m + j + 1, ((l.take (d + 1)).getLastD false && brF false (l.drop (d + 1))), (l.take (d + 1)).dropLast, false, 0⟩ (1 + 2 * m + j + 1) = _
      rw [et, List.dropLast_concat, List.getLastD_concat]
      rfl
    · show run _ l ⟨[], [false], [], 1 + 2 * m + j + 1, ((l.take (d + 1)).getLastD false || brF true (l.drop (d + 1))), (l.take (d + 1)).dropLast, false, 0⟩ (1 + 2 * m + j + 1) = _
      rw [et, List.dropLast_concat, List.getLastD_concat]
      rfl
/-- The run of the law on the branch stack. -/
theorem br_run (hl : l.length = m + 1) (hm : m ≤ 59) : run (brCode m (brO o)) l (mc0 [] [false] []) 0 = (⟨[], [brF o l], [], 3 * m + 2, brF o l, [], true, 0⟩, (brCode m (brO o)).length) := by
  rw [br_ops hl hm m (Nat.le_refl _), Nat.sub_self, List.drop_zero, List.take_zero, brCode_len]
  obtain ⟨h1, h2⟩ := brCode_st m (brO o)
  have e : 1 + 2 * m + m = 1 + 3 * m := by omega
  rw [e]
  rw [run_ok rfl h1 (by rfl)]
  show run _ l ⟨[], [brF o l], [], 1 + 3 * m + 1, brF o l, [], false, 0⟩ (1 + 3 * m + 1) = _
  rw [run_ok rfl h2 (by rfl)]
  show run _ l ⟨[], [brF o l], [], 1 + 3 * m + 1, brF o l, [], true, 0⟩ (1 + 3 * m + 1 + 1) = _
  rw [run_hlt rfl]
  have e1 : 1 + 3 * m + 1 = 3 * m + 2 := by omega
  have e2 : 3 * m + 2 + 1 = 3 * m + 3 := by omega
  rw [e1, e2]
end
end
section
open Go.RowKit

/-- What the program's Run must do. -/
def RunOk : Prop := ∀ (code : List In4) (inp x1 x2 x3 : List Bool) (Ac Ai A1 A2 A3 : Option Addr) (cc ni ci m1 c1 m2 c2 m3 c3 : Nat) (w : World), code.length ≤ 1000000 → ni ≤ 1000000 → m1 ≤ 1000000 → m2 ≤ 1000000 → m3 ≤ 1000000 →
  RdC w Ac code → (Ac = none → cc = 0) → Im w Ai ni ci inp → Im w A1 m1 c1 x1 → Im w A2 m2 c2 x2 → Im w A3 m3 c3 x3 →
  Calls Try.prog 6 #[.slice Ac code.length cc, .slice Ai ni ci, .agg #[.slice A1 m1 c1, .slice A2 m2 c2, .slice A3 m3 c3]] w (RunPost code inp (mc0 x1 x2 x3) w)
/-- What alive must do. -/
def AlOk : Prop := ∀ w : World, Calls Try.prog 5 #[] w fun e w' => e = .returned (.bool true) ∧ Nx w w'
theorem runPost_cells {code : List In4} {inp : List Bool} {s0 : Mc} {w w' : World} {e : Ending} (h : RunPost code inp s0 w e w') : ∃ A1 A2 A3 c1 c2 c3, e = .returned (.agg #[.slice A1 (run code inp s0 0).1.q.length c1, .slice A2 (run code inp s0 0).1.m.length c2, .slice A3 (run code inp s0 0).1.e.length c3, .int .i64 ((run code inp s0 0).2 : Int), .int .i64 ((run code inp s0 0).1.pc : Int), .int .i64 (run code inp s0 0).1.flt]) ∧
    Im w' A1 (run code inp s0 0).1.q.length c1 (run code inp s0 0).1.q ∧ Im w' A2 (run code inp s0 0).1.m.length c2 (run code inp s0 0).1.m ∧ Im w' A3 (run code inp s0 0).1.e.length c3 (run code inp s0 0).1.e ∧ Nx w w' := by
  obtain ⟨v2, v3, v4, rfl, ⟨A1, A2, A3, c1, c2, c3, e, i1, i2, i3⟩, hn⟩ := h
  simp only [Value.agg.injEq, Array.mk.injEq, List.cons.injEq, and_true] at e
  obtain ⟨rfl, rfl, rfl⟩ := e
  exact ⟨_, _, _, _, _, _, rfl, i1, i2, i3, hn⟩
theorem im_len {w : World} {A : Option Addr} {m c : Nat} {xs : List Bool} (h : Im w A m c xs) : xs.length = m := h.2.1
end
section
open Go.RowKit

theorem rdC_bx {w : World} {g : Nat} {T : TypeId} {code : List In4} (h : Bx w g T (ins code)) : RdC w (some ⟨g, 0, none⟩) code := fun k x hk => by
  obtain ⟨h1, h2, h3, h4⟩ := ins_get code k x hk
  refine ⟨_, rfl, ?_, ?_, ?_, ?_⟩
  · rw [Addr.add_lit, Nat.zero_add]; exact h.cell _ h1
  · rw [Addr.add_lit, Nat.zero_add]; exact h.cell _ h2
  · rw [Addr.add_lit, Nat.zero_add]; exact h.cell _ h3
  · rw [Addr.add_lit, Nat.zero_add]; exact h.cell _ h4
theorem im_bx {w : World} {g c : Nat} {T : TypeId} {xs : List Bool} (h : Bx w g T (bools xs)) : Im w (some ⟨g, 0, none⟩) xs.length c xs :=
  ⟨fun k b hk => ⟨_, rfl, by rw [Addr.add_lit, Nat.zero_add]; exact h.cell _ (by simp [bools, hk])⟩, rfl, fun e => by cases e⟩
theorem im_nil (w : World) : Im w none 0 0 [] := ⟨fun k b hk => by simp at hk, rfl, fun _ => rfl⟩
theorem make2 (w : World) : (Instr.makeSlice 22 (.int .i64 2) (.int .i64 2)).run Try.prog w = .ok (.slice (some ⟨w.heap.size, 0, none⟩) 2 2) (w.alloc (.cells #[.bool false, .bool false] 4)) := by kernel_rfl
end
section
open Go.RowKit

theorem ins_app (a b : List In4) : ins (a ++ b) = ins a ++ ins b := by
  induction a with
  | nil => rfl
  | cons x l ih => simp [ins, ih]
def jmpPre (n j : Nat) : List In4 := [⟨0, 0, 0, 0⟩, ⟨15, 0, 0, (2 : Int) + n⟩] ++ List.replicate j ⟨12, 1, 0, 0⟩
theorem jmpPre_succ (n j : Nat) : ins (jmpPre n (j + 1)) = ins (jmpPre n j) ++ [.int .i64 12, .int .i64 1, .int .i64 0, .int .i64 0] := by
  have : jmpPre n (j + 1) = jmpPre n j ++ [⟨12, 1, 0, 0⟩] := by simp [jmpPre, List.replicate_succ']
  rw [this, ins_app]
  rfl
theorem jmp_facts (n : Nat) (hn : n < 50) (v : Bool) : ∃ r, run (jmpCode n) [v] (mc0 [false] [] []) 0 = r ∧ r.1.q = [!v && decide (0 < n)] ∧ r.1.flt = 0 ∧ r.2 = (if v then 3 else 3 + n) ∧ r.1.pc = 2 + n ∧ r.1.m.length = 0 ∧ r.1.e.length = 0 := by
  have h1 := List.all_eq_true.1 jmp_all n (List.mem_range.2 hn)
  have h2 := List.all_eq_true.1 h1 v (by cases v <;> simp)
  simp only [Bool.and_eq_true, beq_iff_eq] at h2
  have hl := run_len (jmpCode n) [v] (mc0 [false] [] []) 0
  exact ⟨_, rfl, h2.1.1.1, h2.1.1.2, h2.1.2, h2.2, hl.2.1, hl.2.2⟩
theorem own_ge {w : World} {B : Nat} {T : TypeId} {sz n g : Nat} {v : Value} {xs : List Value} (h : w.ownsRow B T sz v n xs) (e : v.ownBlock = some g) : B ≤ g := by
  rcases h.2 with ⟨rfl, _⟩ | ⟨g', cap, cur, rfl, hb, _⟩
  · cases e
  · simp [Value.ownBlock] at e; omega
theorem jmpCode_pre (n : Nat) : jmpCode n = jmpPre n n ++ [⟨16, 0, 0, 0⟩] := by simp [jmpCode, jmpPre]
theorem own_code {w : World} {B n : Nat} {v : Value} (h : w.ownsRow B 28 4 v (2 + n + 1) (ins (jmpPre n n) ++ [.int .i64 16, .int .i64 0, .int .i64 0, .int .i64 0])) (hn : ¬ v = .slice none 0 0) :
    ∃ g c, v = .slice (some ⟨g, 0, none⟩) (jmpCode n).length c ∧ RdC w (some ⟨g, 0, none⟩) (jmpCode n) := by
  have hl : (jmpCode n).length = 2 + n + 1 := by simp [jmpCode]; omega
  have hi : ins (jmpCode n) = ins (jmpPre n n) ++ [.int .i64 16, .int .i64 0, .int .i64 0, .int .i64 0] := by rw [jmpCode_pre, ins_app]; rfl
  rw [← hl, ← hi] at h
  rcases h.2 with ⟨rfl, _⟩ | ⟨g, cap, cur, rfl, _⟩
  · exact absurd rfl hn
  · obtain ⟨A, c, e, hr, _⟩ := OwC.rd h
    simp only [Value.slice.injEq] at e
    obtain ⟨rfl, _, rfl⟩ := e
    exact ⟨_, _, rfl, hr⟩
end
end Go.Proofs.Ytdpccnpaajhliaa
