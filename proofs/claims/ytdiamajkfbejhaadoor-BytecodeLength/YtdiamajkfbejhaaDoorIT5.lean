/- What the appending functions of the encoding return: onto a row of bytes of the call's own. Condition: the table of opcodes holds what the program's text lays, where an instruction is appended. -/
import Derived.Test.YtdiamajkfbejhaaDoorIT4
import Derived.Test.YtdiamajkfbejhaaDoorIN0
import Derived.Lib.AppendStr
import Derived.IntWalk
namespace Go.Proofs.YtdiamajkfbejhaaDoor
open Go.RowKit

/-- What appending to an own row of bytes leaves: the new row, nothing else that was there turned. -/
structure Apx (B : Nat) (w w' : World) (v v' : Value) (bs : List UInt8) : Prop where
  ow : OwY w' B v' bs
  gr : w.grownBy w' v.ownBlock
  li : v'.ownBlock = v.ownBlock ∨ ∃ g, v'.ownBlock = some g ∧ w.heap.size ≤ g
theorem Apx.trans {B : Nat} {w w1 w2 : World} {v v1 v2 : Value} {a b : List UInt8} (h : Apx B w w1 v v1 a) (k : Apx B w1 w2 v1 v2 b) : Apx B w w2 v v2 b where
  ow := k.ow
  gr := ⟨k.gr.os.trans h.gr.os, k.gr.tape.trans h.gr.tape, k.gr.output.trans h.gr.output, Nat.le_trans h.gr.size k.gr.size, fun i hi hne => by
    have h1 := h.gr.block i hi hne
    refine (k.gr.block i (Nat.lt_of_lt_of_le hi h.gr.size) ?_).trans h1
    rcases h.li with e | ⟨g, e, hg⟩
    · rw [e]; exact hne
    · rw [e]; intro e2; cases e2; omega⟩
  li := by
    rcases k.li with e | ⟨g, e, hg⟩
    · rw [e]; exact h.li
    · exact .inr ⟨g, e, Nat.le_trans h.gr.size hg⟩
theorem Apx.alloc {B : Nat} {w w' : World} {v v' : Value} {bs : List UInt8} (o : Obj) (h : Apx B (w.alloc o) w' v v' bs) : Apx B w w' v v' bs where
  ow := h.ow
  gr := ⟨h.gr.os, h.gr.tape, h.gr.output, Nat.le_trans (by simp) h.gr.size, fun i hi hne => (h.gr.block i (by simp; omega) hne).trans (Below.heap_alloc w o i hi)⟩
  li := by
    rcases h.li with e | ⟨g, e, hg⟩
    · exact .inl e
    · exact .inr ⟨g, e, Nat.le_trans (by simp) hg⟩
theorem Apx.nx {B : Nat} {w w1 w' : World} {v v' : Value} {bs : List UInt8} (k : Nx w w1) (h : Apx B w1 w' v v' bs) : Apx B w w' v v' bs where
  ow := h.ow
  gr := ⟨h.gr.os.trans k.os, h.gr.tape.trans k.tape, h.gr.output.trans k.output, Nat.le_trans k.size h.gr.size, fun i hi hne => (h.gr.block i (Nat.lt_of_lt_of_le hi k.size) hne).trans (k.block i hi)⟩
  li := by
    rcases h.li with e | ⟨g, e, hg⟩
    · exact .inl e
    · exact .inr ⟨g, e, Nat.le_trans k.size hg⟩
theorem Apx.below {B : Nat} {w w' : World} {v v' : Value} {bs cs : List UInt8} (h : Apx B w w' v v' bs) (ho : OwY w B v cs) (hB : B ≤ w.heap.size) : Below B w w' :=
  Below.grown (Below.refl _ _) h.gr hB fun k hk => (World.ownsRow.lt ho k hk).1
theorem OwY.away {w : World} {B : Nat} {v : Value} {bs : List UInt8} (h : OwY w B v bs) {g : Nat} (hg : w.heap.size ≤ g) : v.ownBlock ≠ some g := fun e => by
  have := (World.ownsRow.lt h g e).2; omega
theorem Apx.bx {B : Nat} {w w' : World} {v v' : Value} {bs : List UInt8} (h : Apx B w w' v v' bs) {g : Nat} {T : TypeId} {vs : List Value} (hb : Bx w g T vs) (hne : v.ownBlock ≠ some g) : Bx w' g T vs ∧ v'.ownBlock ≠ some g := by
  refine ⟨(h.gr.block g hb.lt (fun e => hne e.symm)).trans hb, ?_⟩
  rcases h.li with e | ⟨k, e, hk⟩
  · rw [e]; exact hne
  · rw [e]; intro e2; cases e2; have := hb.lt; omega
/-- From the law of append. -/
theorem apx_of {B : Nat} {w w' : World} {o : Obj} {v : Value} {g cap m n H : Nat} {bs cs : List UInt8} (hn : bs.length = n) (hc : cs.length = m) (h : w'.ownsRow B 5 1 (.slice (some ⟨g, 0, none⟩) (n + m) cap) (n + m) (byt bs ++ byt cs))
    (hg : (w.alloc o).grownBy w' v.ownBlock) (hl : v.ownBlock = some g ∨ g = H) (hH : H = w.heap.size + 1) : Apx B w w' v (.slice (some ⟨g, 0, none⟩) (n + m) cap) (bs ++ cs) :=
  Apx.alloc o ⟨OwY.snoc (by rw [hn]; exact h) hc, hg, by
    rcases hl with e | e
    · exact .inl e.symm
    · exact .inr ⟨g, rfl, by simp; omega⟩⟩
theorem Ev.below {w w' : World} {B : Nat} (h : Ev w) (k : Below B w w') (hB : 0 < B) : Ev w' where
  tb := fun i v hv => (Below.cell k (p := ⟨0, i, none⟩) (by show 0 < B; exact hB)).trans (h.tb i v hv)

set_option maxHeartbeats 800000 in
set_option maxRecDepth 100000 in
theorem appendNumber_any (B : Nat) (v : Value) (bs : List UInt8) (n : Int) (w : World) (ho : OwY w B v bs) (hB : B ≤ w.heap.size) (hl : bs.length ≤ 1000000) :
    Calls Tryd.prog 35 #[v, .int .i64 n] w fun e w' => ∃ v', e = .returned v' ∧ Apx B w w' v v' (bs ++ two n) := by
  obtain ⟨i0, hi, hz0, hz1, hz2⟩ := info_parts info5
  have HO := Lib.hid ho
  clear ho
  go_enter Tryd.func35, Tryd.ntmps35
  have H2 := Lib.hid (byt_two n)
  go_wp2_with (first | (at_builtin; refine wpList_append_lies _ rfl (.tmp 5) (.tmp 11) 28 rfl B 5 i0 (.int .u8 0) 1 1 Tryd.underlying28 hi hz0 hz1 hz2 rfl (by decide) v _ _ rfl (World.ownsRow.alloc HO.out _) ⟨w.heap.size, 0, none⟩ 2 2 [.int .u8 (n % 256), .int .u8 (n / 256 % 256)] rfl rfl (new_two _ _ _ _) (by rw [← H2.out]; exact byt_one _) (by decide) (by unfold maxLen; omega) (by omega) (by simp; omega) (w.heap.size + 1) (by simp) ?_))
  intro g cap w1 ho1 hg hl' _
  have HO1 := Lib.hid (show Apx B w w1 v (.slice (some ⟨g, 0, none⟩) (bs.length + 2) cap) (bs ++ two n) from apx_of rfl rfl (by rw [H2.out]; exact ho1) hg hl' rfl)
  clear ho1 hg
  go_wp2
  go_ret
  exact ⟨_, rfl, HO1.out⟩

set_option maxHeartbeats 800000 in
theorem two_any (N : Nat) (hN : N ≤ 1000000000) (w : World) : Calls Tryd.prog 24 #[.int .i64 N] w fun e w' => ∃ ad, e = .returned (.slice (some ad) 2 2) ∧ RdY w' (some ad) (two (N : Int)) ∧ Nx w w' := by
  have H2 := Lib.hid (byt_two (N : Int))
  go_enter Tryd.func24, Tryd.ntmps24
  go_wp2
  go_ret
  refine ⟨_, rfl, ?_, Nx.one _ _⟩
  intro k b hk
  refine ⟨_, rfl, new_two _ _ _ _ k _ ?_⟩
  rw [← H2.out]
  exact byt_at hk

theorem str_magic : Lib.strCells ⟨#[66, 66, 49]⟩ = byt mgc := rfl
set_option maxHeartbeats 1600000 in
set_option maxRecDepth 100000 in
theorem appendHeader_any (B : Nat) (v : Value) (i q m e : Int) (N : Nat) (w : World) (ho : OwY w B v []) (hB : B ≤ w.heap.size) :
    Calls Tryd.prog 21 #[v, .agg #[.int .i64 i, .int .i64 q, .int .i64 m, .int .i64 e], .int .i64 N] w fun r w' => ∃ v', r = .returned v' ∧ OwY w' B v' (head i q m e N) ∧ Below B w w' := by
  obtain ⟨i0, hi, hz0, hz1, hz2⟩ := info_parts info5
  have j0 : ∀ w', (Instr.index 63 (.agg #[.int .i64 i, .int .i64 q, .int .i64 m, .int .i64 e, .int .i64 N]) (.int .i64 0)).run Tryd.prog w' = .ok (.int .i64 i) w' := fun _ => by kernel_rfl
  have j1 : ∀ w', (Instr.index 63 (.agg #[.int .i64 i, .int .i64 q, .int .i64 m, .int .i64 e, .int .i64 N]) (.int .i64 1)).run Tryd.prog w' = .ok (.int .i64 q) w' := fun _ => by kernel_rfl
  have j2 : ∀ w', (Instr.index 63 (.agg #[.int .i64 i, .int .i64 q, .int .i64 m, .int .i64 e, .int .i64 N]) (.int .i64 2)).run Tryd.prog w' = .ok (.int .i64 m) w' := fun _ => by kernel_rfl
  have j3 : ∀ w', (Instr.index 63 (.agg #[.int .i64 i, .int .i64 q, .int .i64 m, .int .i64 e, .int .i64 N]) (.int .i64 3)).run Tryd.prog w' = .ok (.int .i64 e) w' := fun _ => by kernel_rfl
  have j4 : ∀ w', (Instr.index 63 (.agg #[.int .i64 i, .int .i64 q, .int .i64 m, .int .i64 e, .int .i64 N]) (.int .i64 4)).run Tryd.prog w' = .ok (.int .i64 N) w' := fun _ => by kernel_rfl
  have HO := Lib.hid (show (w.alloc (.cells #[.int .i64 i, .int .i64 q, .int .i64 m, .int .i64 e] 23)).ownsRow B 5 1 v 0 [] from World.ownsRow.alloc ho _)
  have HX := Lib.hid (bx_new w 23 [.int .i64 i, .int .i64 q, .int .i64 m, .int .i64 e])
  have HNE := Lib.hid (ho.away (Nat.le_refl _))
  clear ho
  go_enter Tryd.func21, Tryd.ntmps21
  go_wp2_with (first | (at_builtin; refine Lib.wpList_append_own_string _ rfl (.tmp 9) (.const (.string ⟨#[66, 66, 49]⟩)) 28 9 rfl B 5 i0 Tryd.underlying28 Tryd.underlying9 hi hz0 hz1 hz2 v 0 [] rfl HO.out ⟨#[66, 66, 49]⟩ rfl (by decide) (by decide) (by simp; omega) ?_))
  intro v1 w1 ho1 hg _
  have HX1 := Lib.hid (show Bx w1 w.heap.size 23 [.int .i64 i, .int .i64 q, .int .i64 m, .int .i64 e] from (hg.block _ (by simp) (fun h => HNE.out h.symm)).trans HX.out)
  have N1 := Lib.hid (show Below B w w1 from grown_b (Below.alloc (Below.refl _ _) hB _) hg HO.out (by simp; omega))
  have HO1 := Lib.hid (show OwY w1 B v1 mgc from ho1)
  have HB1 := Lib.hid (show B ≤ w1.heap.size from Nat.le_trans hB N1.out.size)
  clear ho1 hg
  have x0 := HX1.out.cell 0 rfl
  have x1 := HX1.out.cell 1 rfl
  have x2 := HX1.out.cell 2 rfl
  have x3 := HX1.out.cell 3 rfl
  go_wp2_with fail
  clear x0 x1 x2 x3
  refine wp_loop_rounds 6 ?_
  rw [rounds_succ]
  go_wp2_with fail
  refine (appendNumber_any B v1 _ i w1 HO1.out HB1.out (by decide)).mono ?_
  rintro r w2 ⟨v2, rfl, a2⟩
  have B2 := Lib.hid (N1.out.trans (a2.below HO1.out HB1.out))
  have HO2 := Lib.hid a2.ow
  have HB2 := Lib.hid (Nat.le_trans HB1.out a2.gr.size)
  clear a2
  go_wp2_with fail
  rw [rounds_succ]
  go_wp2_with fail
  refine (appendNumber_any B v2 _ q w2 HO2.out HB2.out (by simp [mgc, two])).mono ?_
  rintro r w3 ⟨v3, rfl, a2⟩
  have B3 := Lib.hid (B2.out.trans (a2.below HO2.out HB2.out))
  have HO3 := Lib.hid a2.ow
  have HB3 := Lib.hid (Nat.le_trans HB2.out a2.gr.size)
  clear a2
  go_wp2_with fail
  rw [rounds_succ]
  go_wp2_with fail
  refine (appendNumber_any B v3 _ m w3 HO3.out HB3.out (by simp [mgc, two])).mono ?_
  rintro r w4 ⟨v4, rfl, a2⟩
  have B4 := Lib.hid (B3.out.trans (a2.below HO3.out HB3.out))
  have HO4 := Lib.hid a2.ow
  have HB4 := Lib.hid (Nat.le_trans HB3.out a2.gr.size)
  clear a2
  go_wp2_with fail
  rw [rounds_succ]
  go_wp2_with fail
  refine (appendNumber_any B v4 _ e w4 HO4.out HB4.out (by simp [mgc, two])).mono ?_
  rintro r w5 ⟨v5, rfl, a2⟩
  have B5 := Lib.hid (B4.out.trans (a2.below HO4.out HB4.out))
  have HO5 := Lib.hid a2.ow
  have HB5 := Lib.hid (Nat.le_trans HB4.out a2.gr.size)
  clear a2
  go_wp2_with fail
  rw [rounds_succ]
  go_wp2_with fail
  refine (appendNumber_any B v5 _ (N : Int) w5 HO5.out HB5.out (by simp [mgc, two])).mono ?_
  rintro r w6 ⟨v6, rfl, a2⟩
  have B6 := Lib.hid (B5.out.trans (a2.below HO5.out HB5.out))
  have HO6 := Lib.hid a2.ow
  clear a2
  go_wp2_with fail
  rw [rounds_succ]
  go_wp2_with fail
  go_ret
  exact ⟨_, rfl, by have := HO6.out; simp only [List.append_assoc] at this; exact this, B6.out⟩
end Go.Proofs.YtdiamajkfbejhaaDoor
