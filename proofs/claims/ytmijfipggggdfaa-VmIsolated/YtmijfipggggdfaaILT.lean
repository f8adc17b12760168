/- The nil machine; the two machines side by side. Conditions: as each theorem states them. -/
import Derived.Test.YtmijfipggggdfaaIXG
namespace Go.Proofs.Ytmijfipggggdfaa
open Go.RowKit

set_option maxHeartbeats 800000 in
set_option maxRecDepth 100000 in
theorem nilStep (w : World) : Calls Try.prog 16 #[.pointer none] w (fun e w' => e = .returned (.tuple #[.bool false, .int .i64 1]) ∧ w = w') := by
  go_enter Try.func16, Try.ntmps16
  go_wp2
  go_ret2
  exact ⟨rfl, rfl⟩
set_option maxHeartbeats 800000 in
set_option maxRecDepth 100000 in
theorem nilAcc (w : World) : Calls Try.prog 17 #[.pointer none] w (fun e w' => e = .returned (.bool false) ∧ w = w') := by
  go_enter Try.func17, Try.ntmps17
  go_wp2
  go_ret
  exact ⟨rfl, rfl⟩
set_option maxHeartbeats 800000 in
set_option maxRecDepth 100000 in
theorem nilDepth (w : World) : Calls Try.prog 18 #[.pointer none] w (fun e w' => e = .returned (.int .i64 0) ∧ w = w') := by
  go_enter Try.func18, Try.ntmps18
  go_wp2
  go_ret
  exact ⟨rfl, rfl⟩
set_option maxHeartbeats 800000 in
set_option maxRecDepth 100000 in
theorem nilAt (w : World) : Calls Try.prog 19 #[.pointer none] w (fun e w' => e = .returned (.int .i64 0) ∧ w = w') := by
  go_enter Try.func19, Try.ntmps19
  go_wp2
  go_ret
  exact ⟨rfl, rfl⟩
set_option maxHeartbeats 800000 in
set_option maxRecDepth 100000 in
theorem nilState (w : World) : Calls Try.prog 20 #[.pointer none] w (fun e w' => e = .returned (.agg #[.slice none 0 0, .slice none 0 0, .slice none 0 0]) ∧ Nx w w') := by
  have NX := Lib.hid (Nx.one w (.cells #[.slice none 0 0, .slice none 0 0, .slice none 0 0] 25))
  have X := bx_new w 25 [.slice none 0 0, .slice none 0 0, .slice none 0 0]
  have z0 := X.cell 0 rfl
  have z1 := X.cell 1 rfl
  have z2 := X.cell 2 rfl
  clear X
  go_enter Try.func20, Try.ntmps20
  go_wp2
  refine bodyPost_ret (by simp [results, Try.results20, go_sem, z0, z1, z2]; try rfl) rfl ?_
  exact ⟨rfl, NX.out⟩

theorem OwC.low {w : World} {B B' : Nat} {v : Value} {code : List In4} (h : OwC w B v code) (hb : B' ≤ B) : OwC w B' v code := own_lowC h hb
theorem PM.low {w : World} {base base' b sb : Nat} {o : Option Nat} {ge : Nat} {nt : Int} {code : List In4} {inp : List Bool} {s : Mc} (h : PM w base b sb o ge nt code inp s) (hb : base' ≤ base) : PM w base' b sb o ge nt code inp s := by
  obtain ⟨vc, vi, gq, gm, cq, cm, ce, mb, md, h0, h1, ⟨hc, hi⟩, ⟨hq, hm, he⟩, h4, h5, h6, h7⟩ := h
  exact ⟨vc, vi, gq, gm, cq, cm, ce, mb, md, h0, ⟨Nat.le_trans hb h1.1, Nat.le_trans hb h1.2⟩, ⟨own_lowC hc hb, own_low hi hb⟩, ⟨hq.low hb, hm.low hb, he.low hb⟩, h4.low hb, h5, h6, h7⟩
/-- The blocks that the program's machine writes. -/
def Fp (b sb : Nat) (o : Option Nat) (ge : Nat) : Nat → Prop := fun k => k = b ∨ k = sb ∨ o = some k ∨ k = ge
theorem Fp.lt {w : World} {base b sb : Nat} {o : Option Nat} {ge : Nat} {nt : Int} {code : List In4} {inp : List Bool} {s : Mc} (h : PM w base b sb o ge nt code inp s) : ∀ k, Fp b sb o ge k → k < w.heap.size := fun k hk => by
  obtain ⟨h1, h2, h3⟩ := h.own_lt
  have h0 := h.lt
  rcases hk with rfl | rfl | e | rfl
  · exact h0
  · exact h1
  · exact h3 k e
  · exact h2
/-- None of them is the reference's machine's block. -/
theorem Fp.ty {w : World} {base b sb : Nat} {o : Option Nat} {ge : Nat} {nt : Int} {code : List In4} {inp : List Bool} {s : Mc} (h : PM w base b sb o ge nt code inp s) {r : Nat} (hr : Ty w r 48) : ¬ Fp b sb o ge r := fun hk => by
  obtain ⟨vc, vi, gq, gm, cq, cm, ce, mb, md, hb, h1, h2, ⟨hq, hm, he⟩, h4, _⟩ := h
  rcases hk with rfl | rfl | e | rfl
  · exact hb.ty.ne hr (by decide) rfl
  · exact h4.ty.ne hr (by decide) rfl
  · exact (h4.tyo e).1.ne hr (by decide) rfl
  · exact he.ty.ne hr (by decide) rfl
theorem add_block (ad : Addr) (j : Nat) : (ad.add j).block = ad.block := by unfold Addr.add; split <;> rfl
/-- The reference's machine beside a step of the program's. -/
theorem RM.mp {w w1 : World} {b sb rb : Nat} {o o' : Option Nat} {ge : Nat} {code : List In4} {inp : List Bool} {s : Mc} (h : RM (Fp b sb o ge) w rb code inp s) (hrb : ¬ Fp b sb o ge rb) (k : Mp b sb o ge w w1) (ho : o' = o ∨ ∀ j, o' = some j → w.heap.size ≤ j) (hlt : ∀ j, Fp b sb o' ge j → j < w1.heap.size) :
    RM (Fp b sb o' ge) w1 rb code inp s := by
  obtain ⟨Ac, Ai, Aq, Am, Ae, As, cc, ci, cq, cm, ce, cs, hb, ⟨hc, hco, hcf⟩, h1, h2, h3, h4, h5⟩ := h
  have kb : ∀ j, j < w.heap.size → ¬ Fp b sb o ge j → w1.heap[j]? = w.heap[j]? := fun j hj hn => k.block j hj (fun e => hn (.inl e)) (fun e => hn (.inr (.inl e))) (fun e => hn (.inr (.inr (.inl e.symm)))) (fun e => hn (.inr (.inr (.inr e))))
  have kc : ∀ (p : Addr) (v : Value), w.cell? p = some v → ¬ Fp b sb o ge p.block → w1.cell? p = some v := fun p v hp hn => (World.cell?_of_block (kb p.block (World.block_lt_of_cell? w p hp) hn)).trans hp
  have nf : ∀ j, j < w.heap.size → ¬ Fp b sb o ge j → ¬ Fp b sb o' ge j := fun j hj hn hk => by
    rcases hk with e | e | e | e
    · exact hn (.inl e)
    · exact hn (.inr (.inl e))
    · rcases ho with rfl | ho
      · exact hn (.inr (.inr (.inl e)))
      · have := ho j e; omega
    · exact hn (.inr (.inr (.inr e)))
  have ki : ∀ (A : Option Addr) (c : Nat) (xs : List Bool), ImO (Fp b sb o ge) w rb A c xs → ImO (Fp b sb o' ge) w1 rb A c xs := fun A c xs ⟨⟨hr, hl, hn⟩, hof, hfar⟩ => by
    refine ⟨⟨fun i x hi => ?_, hl, hn⟩, hof, fun h0 ad e hk => ?_⟩
    · obtain ⟨ad, e, hv⟩ := hr i x hi
      exact ⟨ad, e, kc _ _ hv (by rw [add_block]; exact hfar (by have := (List.getElem?_eq_some_iff.1 hi).1; omega) ad e)⟩
    · obtain ⟨ad', e', hv⟩ := hr 0 _ (List.getElem?_eq_getElem h0)
      obtain rfl := Option.some.inj (e.symm.trans e')
      have hb' := World.block_lt_of_cell? w _ hv
      rw [add_block] at hb'
      exact nf _ hb' (hfar h0 ad e) hk
  refine ⟨Ac, Ai, Aq, Am, Ae, As, cc, ci, cq, cm, ce, cs, (kb rb hb.lt hrb).trans hb, ⟨fun i x hi => ?_, hco, fun h0 ad e hk => ?_⟩, ki _ _ _ h1, ki _ _ _ h2, ki _ _ _ h3, ki _ _ _ h4, ki _ _ _ h5.1, h5.2.1, hlt⟩
  · obtain ⟨ad, e, v1, v2, v3, v4⟩ := hc i x hi
    have hf := hcf (by have := (List.getElem?_eq_some_iff.1 hi).1; omega) ad e
    exact ⟨ad, e, kc _ _ v1 (by rw [add_block]; exact hf), kc _ _ v2 (by rw [add_block]; exact hf), kc _ _ v3 (by rw [add_block]; exact hf), kc _ _ v4 (by rw [add_block]; exact hf)⟩
  · obtain ⟨ad', e', v1, _⟩ := hc 0 _ (List.getElem?_eq_getElem h0)
    obtain rfl := Option.some.inj (e.symm.trans e')
    have hb' := World.block_lt_of_cell? w _ v1
    rw [add_block] at hb'
    exact nf _ hb' (hcf h0 ad e) hk
theorem RM.ty {F : Nat → Prop} {w : World} {b : Nat} {code : List In4} {inp : List Bool} {s : Mc} (h : RM F w b code inp s) : Ty w b 48 := by
  obtain ⟨Ac, Ai, Aq, Am, Ae, As, cc, ci, cq, cm, ce, cs, hb, _⟩ := h; exact hb.ty
/-- The program's machine beside a step of the reference's. -/
theorem PM.rm {w w' : World} {base b sb : Nat} {o : Option Nat} {ge : Nat} {nt : Int} {code : List In4} {inp : List Bool} {s : Mc} {rb : Nat} (h : PM w base b sb o ge nt code inp s) (hr : Ty w rb 48) (k : Mv rb none w w') : PM w' base b sb o ge nt code inp s :=
  h.kept fun j _ hj hn => k.block j hj (fun e => hn (e ▸ hr)) (by simp)
/-- Both machines, in the same state. -/
def Both (W wr : World) (b sb ge rb : Nat) (code : List In4) (inp : List Bool) (s : Mc) : Prop := ∃ o nt, PM wr W.heap.size b sb o ge nt code inp s ∧ RM (Fp b sb o ge) wr rb code inp s ∧ W.heap.size ≤ rb ∧ Nx W wr
theorem Both.nx {W w w' : World} {b sb ge rb : Nat} {code : List In4} {inp : List Bool} {s : Mc} (h : Both W w b sb ge rb code inp s) (k : Nx w w') : Both W w' b sb ge rb code inp s := by
  obtain ⟨o, nt, h1, h2, h3, h4⟩ := h; exact ⟨o, nt, h1.nx k, h2.nx k, h3, h4.trans k⟩
/-- The program's machine one step ahead. -/
def Ahead (W wr : World) (b sb ge rb : Nat) (code : List In4) (inp : List Bool) (s s1 : Mc) : Prop := ∃ o nt, PM wr W.heap.size b sb o ge nt code inp s1 ∧ RM (Fp b sb o ge) wr rb code inp s ∧ W.heap.size ≤ rb ∧ Nx W wr
theorem Both.step1 {W w : World} {b sb ge rb : Nat} {code : List In4} {inp : List Bool} {s : Mc} (h : Both W w b sb ge rb code inp s) (hf : Fit s) (hn : NF s) :
    Calls Try.prog 16 #[.pointer (some ⟨b, 0, none⟩)] w (fun e w' => e = .returned (.tuple #[.bool (stp code inp s).2.1, .int .i64 (stp code inp s).2.2]) ∧ Ahead W w' b sb ge rb code inp s (stp code inp s).1) := by
  obtain ⟨o, nt, h1, h2, h3, h4⟩ := h
  refine (vmStep_any _ b sb o ge nt code inp s hf hn w h1).mono fun e w' hh => ?_
  obtain ⟨rfl, o', nt', hp, ho, hm⟩ := hh
  obtain ⟨b1, b2, b3, b4⟩ := h1.base_le
  exact ⟨rfl, o', nt', hp, h2.mp (Fp.ty h1 h2.ty) hm ho (Fp.lt hp), h3, h4.mp hm b1 b2 b4 b3⟩
theorem Ahead.step2 {W w : World} {b sb ge rb : Nat} {code : List In4} {inp : List Bool} {s : Mc} (h : Ahead W w b sb ge rb code inp s (stp code inp s).1) (hf : Fit s) :
    Calls Try.prog 24 #[.pointer (some ⟨rb, 0, none⟩)] w (fun e w' => e = .returned (.tuple #[.bool (stp code inp s).2.1, .int .i64 (stp code inp s).2.2]) ∧ Both W w' b sb ge rb code inp (stp code inp s).1) := by
  obtain ⟨o, nt, h1, h2, h3, h4⟩ := h
  refine (refStep_any rb code inp s hf w h2).mono fun e w' hh => ?_
  obtain ⟨rfl, hr, hm⟩ := hh
  exact ⟨rfl, o, nt, h1.rm h2.ty hm, hr, h3, h4.mv hm h3 (by simp)⟩
end Go.Proofs.Ytmijfipggggdfaa
