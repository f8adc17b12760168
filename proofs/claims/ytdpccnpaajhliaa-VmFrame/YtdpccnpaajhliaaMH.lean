/- Words for the program's machine in memory: its cells, its images, its branch stack, its table of methods. No condition. What the program's machine does to read a bit and to set its accumulator. What the methods of ld to orn do. What the methods of push, andp and orp do. Conditions: as each theorem states them. -/
import Derived.Test.YtdpccnpaajhliaaMD
import Derived.Test.YtdpccnpaajhliaaMC
import Derived.Deep.RegionHeld3
import Derived.Deep.QuietTactic
import Derived.BigQuiet
import Derived.StillTailTactics
namespace Go.Proofs.Ytdpccnpaajhliaa
section
open Go.RowKit

/-- A block of cells of the type T. -/
def Ty (w : World) (j : Nat) (T : TypeId) : Prop := ∃ cs : Array Value, w.heap[j]? = some (.cells cs T (0, 0))
theorem Ty.ne {w : World} {i j : Nat} {T U : TypeId} (h : Ty w i T) (k : Ty w j U) (hn : T ≠ U) : i ≠ j := fun e => by
  subst e
  obtain ⟨c, h⟩ := h
  obtain ⟨d, k⟩ := k
  have e := Option.some.inj (h.symm.trans k)
  injection e with e1 e2
  exact hn e2
theorem Ty.lt {w : World} {j : Nat} {T : TypeId} (h : Ty w j T) : j < w.heap.size := by obtain ⟨c, h⟩ := h; exact (Array.getElem?_eq_some_iff.1 h).1
theorem Bx.ty {w : World} {g : Nat} {T : TypeId} {vs : List Value} (h : Bx w g T vs) : Ty w g T := ⟨_, h⟩
theorem own_ty {w : World} {base : Nat} {e : TypeId} {size : Nat} {v : Value} {n : Nat} {xs : List Value} (h : w.ownsRow base e size v n xs) {g : Nat} (hg : v.ownBlock = some g) : Ty w g e ∧ base ≤ g := by
  rcases h.2 with ⟨rfl, _⟩ | ⟨g', cap, cur, rfl, hb, hc, _⟩
  · simp [Value.ownBlock] at hg
  · obtain rfl : g' = g := by simpa [Value.ownBlock] using hg
    exact ⟨⟨_, hc⟩, hb⟩
theorem OwB.ty {w : World} {base g c : Nat} {xs : List Bool} (h : OwB w base g c xs) : Ty w g 4 := (own_ty h rfl).1
theorem Stk.ty {w : World} {T E : TypeId} {base b : Nat} {o : Option Nat} {cap md : Nat} {xs : List Value} (h : Stk w T E base b o cap md xs) : Ty w b T := by
  obtain ⟨_, _, v, _, hb, _⟩ := h; exact hb.ty
theorem Stk.tyo {w : World} {T E : TypeId} {base b : Nat} {o : Option Nat} {cap md : Nat} {xs : List Value} (h : Stk w T E base b o cap md xs) {j : Nat} (hj : o = some j) : Ty w j E ∧ base ≤ j := by
  obtain ⟨_, _, v, hv, _, ho⟩ := h
  exact own_ty ho (hv.trans hj)

/-- The table of methods, each bound to the machine at block b. -/
def mth (b n : Nat) : Value := .func (.func n) #[.pointer (some ⟨b, 0, none⟩)] #[]
def mtl (b : Nat) : List Value := [mth b 31, mth b 32, mth b 33, mth b 34, mth b 35, mth b 36,
  mth b 37, mth b 38, mth b 39, mth b 40, mth b 41, mth b 42, mth b 43,
  mth b 44, mth b 45, mth b 46, mth b 47]
def mts (b : Nat) : Array MapEntry := ((List.range 17).map fun k => { key := .int .i64 (k : Int), val := (mtl b).getD k undef, born := k }).toArray

/-- The twelve cells of the program's machine. -/
def pmc (vc vi : Value) (gq gm ge cq cm ce : Nat) (s : Mc) (sb mb : Nat) (nt : Int) : List Value :=
  [vc, vi, .slice (some ⟨gq, 0, none⟩) s.q.length cq, .slice (some ⟨gm, 0, none⟩) s.m.length cm, .slice (some ⟨ge, 0, none⟩) s.e.length ce, .int .i64 (s.pc : Int), .bool s.acc, .pointer (some ⟨sb, 0, none⟩), .map (some mb), .int .i64 nt, .bool s.hlt, .int .i64 s.flt]
def bls (xs : List Bool) : List Value := xs.map fun b => .bool b
/-- The program's machine at block b: its stack at sb, the stack's row in o, its edge history in ge. -/
def PM (w : World) (base b sb : Nat) (o : Option Nat) (ge : Nat) (nt : Int) (code : List In4) (inp : List Bool) (s : Mc) : Prop :=
  ∃ vc vi gq gm cq cm ce mb md, Bx w b 66 (pmc vc vi gq gm ge cq cm ce s sb mb nt) ∧ (base ≤ b ∧ base ≤ mb) ∧ (OwC w base vc code ∧ Ow w base vi inp) ∧ (OwB w base gq cq s.q ∧ OwB w base gm cm s.m ∧ OwB w base ge ce s.e) ∧
    Stk w 82 4 base sb o 64 md (bls s.stk) ∧ w.heap[mb]? = some (.map (mts b) 17) ∧ (gq ≠ ge ∧ gm ≠ ge ∧ vi.ownBlock ≠ some ge ∧ o ≠ some ge) ∧ (o ≠ some gq ∧ o ≠ some gm ∧ ∀ j, o = some j → vi.ownBlock ≠ some j)

section
variable {w w' : World} {base b sb : Nat} {o : Option Nat} {ge : Nat} {nt : Int} {code : List In4} {inp : List Bool} {s : Mc}
theorem PM.lt (h : PM w base b sb o ge nt code inp s) : b < w.heap.size := by obtain ⟨vc, vi, gq, gm, cq, cm, ce, mb, md, hb, _⟩ := h; exact hb.lt
theorem PM.base_le (h : PM w base b sb o ge nt code inp s) : base ≤ b ∧ base ≤ sb ∧ base ≤ ge ∧ ∀ j, o = some j → base ≤ j := by
  obtain ⟨vc, vi, gq, gm, cq, cm, ce, mb, md, hb, h1, h2, h3, h4, _⟩ := h; exact ⟨h1.1, h4.base_le, h3.2.2.base_le, fun j e => (h4.own_lt j e).1⟩
theorem PM.own_lt (h : PM w base b sb o ge nt code inp s) : sb < w.heap.size ∧ ge < w.heap.size ∧ ∀ j, o = some j → j < w.heap.size := by
  obtain ⟨vc, vi, gq, gm, cq, cm, ce, mb, md, hb, h1, h2, h3, h4, _⟩ := h; exact ⟨h4.lt, h3.2.2.ty.lt, fun j e => (h4.own_lt j e).2⟩
theorem PM.kept (h : PM w base b sb o ge nt code inp s) (k : ∀ j, base ≤ j → j < w.heap.size → ¬ Ty w j 0 → w'.heap[j]? = w.heap[j]?) : PM w' base b sb o ge nt code inp s := by
  obtain ⟨vc, vi, gq, gm, cq, cm, ce, mb, md, hb, h1, ⟨hc, hi⟩, ⟨hq, hm, he⟩, h4, h5, h6, h7⟩ := h
  have kt : ∀ j T, Ty w j T → T ≠ 0 → base ≤ j → w'.heap[j]? = w.heap[j]? := fun j T ht hn hj => k j hj ht.lt (fun hr => ht.ne hr hn rfl)
  have ko : ∀ (g c : Nat) (xs : List Bool), OwB w base g c xs → OwB w' base g c xs := fun g c xs ho => own_of ho fun g' hg' _ => by
    obtain rfl : g = g' := by simpa [Value.ownBlock] using hg'
    exact kt _ _ ho.ty (by decide) ho.base_le
  refine ⟨vc, vi, gq, gm, cq, cm, ce, mb, md, bx_of hb (kt _ _ hb.ty (by decide) h1.1), h1, ⟨own_of hc fun g hg _ => ?_, own_of hi fun g hg _ => ?_⟩, ⟨ko _ _ _ hq, ko _ _ _ hm, ko _ _ _ he⟩, h4.kept fun j hj e => ?_, ?_, h6, h7⟩
  · exact kt _ _ (own_ty hc hg).1 (by decide) (own_ty hc hg).2
  · exact kt _ _ (own_ty hi hg).1 (by decide) (own_ty hi hg).2
  · rcases e with rfl | e
    · exact kt _ _ h4.ty (by decide) h4.base_le
    · exact kt _ _ (h4.tyo e).1 (by decide) (h4.tyo e).2
  · exact (k mb h1.2 (Array.getElem?_eq_some_iff.1 h5).1 (fun ⟨c, hr⟩ => by have e := Option.some.inj (h5.symm.trans hr); cases e)).trans h5
theorem PM.nx (h : PM w base b sb o ge nt code inp s) (k : Nx w w') : PM w' base b sb o ge nt code inp s := h.kept fun j _ hj _ => k.block j hj
/-- Only the machine's own cells have turned. -/
theorem PM.upd (h : PM w base b sb o ge nt code inp s) {s' : Mc} {nt' : Int} (hs : s'.q = s.q ∧ s'.m = s.m ∧ s'.e = s.e ∧ s'.stk = s.stk) (k : ∀ j, j ≠ b → w'.heap[j]? = w.heap[j]?)
    (hx : ∀ vc vi gq gm cq cm ce mb, Bx w b 66 (pmc vc vi gq gm ge cq cm ce s sb mb nt) → Bx w' b 66 (pmc vc vi gq gm ge cq cm ce s' sb mb nt')) : PM w' base b sb o ge nt' code inp s' := by
  obtain ⟨vc, vi, gq, gm, cq, cm, ce, mb, md, hb, h1, ⟨hc, hi⟩, ⟨hq, hm, he⟩, h4, h5, h6, h7⟩ := h
  obtain ⟨e1, e2, e3, e4⟩ := hs
  have kt : ∀ j T, Ty w j T → T ≠ 66 → w'.heap[j]? = w.heap[j]? := fun j T ht hn => k j (ht.ne hb.ty hn)
  have ko : ∀ (g c : Nat) (xs : List Bool), OwB w base g c xs → OwB w' base g c xs := fun g c xs ho => own_of ho fun g' hg' _ => by
    obtain rfl : g = g' := by simpa [Value.ownBlock] using hg'
    exact kt _ _ ho.ty (by decide)
  refine ⟨vc, vi, gq, gm, cq, cm, ce, mb, md, hx _ _ _ _ _ _ _ _ hb, h1, ⟨own_of hc fun g hg _ => ?_, own_of hi fun g hg _ => ?_⟩, ⟨e1 ▸ ko _ _ _ hq, e2 ▸ ko _ _ _ hm, e3 ▸ ko _ _ _ he⟩, e4 ▸ h4.kept fun j hj e => ?_, ?_, h6, h7⟩
  · exact kt _ _ (own_ty hc hg).1 (by decide)
  · exact kt _ _ (own_ty hi hg).1 (by decide)
  · rcases e with rfl | e
    · exact kt _ _ h4.ty (by decide)
    · exact kt _ _ (h4.tyo e).1 (by decide)
  · exact (k mb (fun e => by subst e; have e := Option.some.inj (h5.symm.trans hb); cases e)).trans h5
theorem PM.setAcc (h : PM w base b sb o ge nt code inp s) (a : Bool) : PM (w.setCell ⟨b, 6, none⟩ (.bool a)) base b sb o ge nt code inp { s with acc := a } :=
  h.upd ⟨rfl, rfl, rfl, rfl⟩ (fun j hj => Deep.blk_setCell_other w _ _ j hj) (fun _ _ _ _ _ _ _ _ hb => hb.put 6 _)
theorem PM.setPc (h : PM w base b sb o ge nt code inp s) (a : Nat) : PM (w.setCell ⟨b, 5, none⟩ (.int .i64 (a : Int))) base b sb o ge nt code inp { s with pc := a } :=
  h.upd ⟨rfl, rfl, rfl, rfl⟩ (fun j hj => Deep.blk_setCell_other w _ _ j hj) (fun _ _ _ _ _ _ _ _ hb => hb.put 5 _)
theorem PM.setNx (h : PM w base b sb o ge nt code inp s) (a : Int) : PM (w.setCell ⟨b, 9, none⟩ (.int .i64 a)) base b sb o ge a code inp s :=
  h.upd ⟨rfl, rfl, rfl, rfl⟩ (fun j hj => Deep.blk_setCell_other w _ _ j hj) (fun _ _ _ _ _ _ _ _ hb => hb.put 9 _)
theorem PM.setHlt (h : PM w base b sb o ge nt code inp s) (a : Bool) : PM (w.setCell ⟨b, 10, none⟩ (.bool a)) base b sb o ge nt code inp { s with hlt := a } :=
  h.upd ⟨rfl, rfl, rfl, rfl⟩ (fun j hj => Deep.blk_setCell_other w _ _ j hj) (fun _ _ _ _ _ _ _ _ hb => hb.put 10 _)
theorem PM.setFlt (h : PM w base b sb o ge nt code inp s) (a : Int) : PM (w.setCell ⟨b, 11, none⟩ (.int .i64 a)) base b sb o ge nt code inp { s with flt := a } :=
  h.upd ⟨rfl, rfl, rfl, rfl⟩ (fun j hj => Deep.blk_setCell_other w _ _ j hj) (fun _ _ _ _ _ _ _ _ hb => hb.put 11 _)
/-- A bit of the edge history stored in place. -/
theorem PM.setE (h : PM w base b sb o ge nt code inp s) (p : Nat) (v : Bool) : PM (w.setCell ⟨ge, p, none⟩ (.bool v)) base b sb o ge nt code inp { s with e := s.e.set p v } := by
  obtain ⟨vc, vi, gq, gm, cq, cm, ce, mb, md, hb, h1, ⟨hc, hi⟩, ⟨hq, hm, he⟩, h4, h5, ⟨n1, n2, n3, n4⟩, h7⟩ := h
  have k : ∀ j, j ≠ ge → (w.setCell ⟨ge, p, none⟩ (.bool v)).heap[j]? = w.heap[j]? := fun j hj => Deep.blk_setCell_other w _ _ j hj
  have kt : ∀ j T, Ty w j T → T ≠ 4 → (w.setCell ⟨ge, p, none⟩ (.bool v)).heap[j]? = w.heap[j]? := fun j T ht hn => k j (ht.ne he.ty hn)
  refine ⟨vc, vi, gq, gm, cq, cm, ce, mb, md, ?_, h1, ⟨own_of hc fun g hg _ => ?_, own_of hi fun g hg _ => ?_⟩, ⟨hq.far n1 _, hm.far n2 _, he.set p v⟩, h4.kept fun j hj e => ?_, ?_, ⟨n1, n2, n3, n4⟩, h7⟩
  · have := bx_of hb (kt _ _ hb.ty (by decide))
    unfold pmc at this ⊢
    simp only [List.length_set]
    exact this
  · exact kt _ _ (own_ty hc hg).1 (by decide)
  · exact k g (fun e => n3 (by rw [hg, e]))
  · rcases e with rfl | e
    · exact kt _ _ h4.ty (by decide)
    · exact k j (fun e' => n4 (by rw [e, e']))
  · exact (k mb (fun e => by subst e; obtain ⟨c, hr⟩ := he.ty; have e := Option.some.inj (h5.symm.trans hr); cases e)).trans h5
/-- Two new images. -/
theorem PM.setQM (h : PM w base b sb o ge nt code inp s) {g1 g2 c1 c2 n1 n2 : Nat} {x1 x2 : List Bool} (l1 : x1.length = n1) (l2 : x2.length = n2) (h1 : OwB w base g1 c1 x1) (h2 : OwB w base g2 c2 x2) (d1 : g1 ≠ ge) (d2 : g2 ≠ ge) (d3 : o ≠ some g1) (d4 : o ≠ some g2) :
    PM ((w.setCell ⟨b, 2, none⟩ (.slice (some ⟨g1, 0, none⟩) n1 c1)).setCell ⟨b, 3, none⟩ (.slice (some ⟨g2, 0, none⟩) n2 c2)) base b sb o ge nt code inp { s with q := x1, m := x2 } := by
  subst l1 l2
  obtain ⟨vc, vi, gq, gm, cq, cm, ce, mb, md, hb, k1, ⟨hc, hi⟩, ⟨hq, hm, he⟩, h4, h5, ⟨_, _, m3, m4⟩, ⟨_, _, m7⟩⟩ := h
  have k : ∀ j, j ≠ b → ((w.setCell ⟨b, 2, none⟩ (.slice (some ⟨g1, 0, none⟩) x1.length c1)).setCell ⟨b, 3, none⟩ (.slice (some ⟨g2, 0, none⟩) x2.length c2)).heap[j]? = w.heap[j]? := fun j hj => (Deep.blk_setCell_other _ _ _ j hj).trans (Deep.blk_setCell_other _ _ _ j hj)
  have kt : ∀ j T, Ty w j T → T ≠ 66 → _ = w.heap[j]? := fun j T ht hn => k j (ht.ne hb.ty hn)
  have ko : ∀ (g c : Nat) (xs : List Bool), OwB w base g c xs → OwB ((w.setCell ⟨b, 2, none⟩ (.slice (some ⟨g1, 0, none⟩) x1.length c1)).setCell ⟨b, 3, none⟩ (.slice (some ⟨g2, 0, none⟩) x2.length c2)) base g c xs := fun g c xs ho => own_of ho fun g' hg' _ => by
    obtain rfl : g = g' := by simpa [Value.ownBlock] using hg'
    exact kt _ _ ho.ty (by decide)
  refine ⟨vc, vi, g1, g2, c1, c2, ce, mb, md, (hb.put 2 _).put 3 _, k1, ⟨own_of hc fun g hg _ => ?_, own_of hi fun g hg _ => ?_⟩, ⟨ko _ _ _ h1, ko _ _ _ h2, ko _ _ _ he⟩, h4.kept fun j hj e => ?_, ?_, ⟨d1, d2, m3, m4⟩, ⟨d3, d4, m7⟩⟩
  · exact kt _ _ (own_ty hc hg).1 (by decide)
  · exact kt _ _ (own_ty hi hg).1 (by decide)
  · rcases e with rfl | e
    · exact kt _ _ h4.ty (by decide)
    · exact kt _ _ (h4.tyo e).1 (by decide)
  · exact (k mb (fun e => by subst e; have e := Option.some.inj (h5.symm.trans hb); cases e)).trans h5
/-- The stack has turned. -/
theorem PM.stk' (h : PM w base b sb o ge nt code inp s) {o' : Option Nat} {md' : Nat} {xs : List Bool} (hS : Stk w' 82 4 base sb o' 64 md' (bls xs)) (ho : o' = o ∨ ∀ j, o' = some j → w.heap.size ≤ j) (k : Mv sb o w w') : PM w' base b sb o' ge nt code inp { s with stk := xs } := by
  obtain ⟨vc, vi, gq, gm, cq, cm, ce, mb, md, hb, h1, ⟨hc, hi⟩, ⟨hq, hm, he⟩, h4, h5, ⟨m1, m2, m3, m4⟩, ⟨m5, m6, m7⟩⟩ := h
  have kt : ∀ j T, Ty w j T → T ≠ 82 → o ≠ some j → w'.heap[j]? = w.heap[j]? := fun j T ht hn hj => k.block j ht.lt (ht.ne h4.ty hn) (fun e => hj e.symm)
  have k4 : ∀ j T, Ty w j T → T ≠ 4 → o ≠ some j := fun j T ht hn e => (h4.tyo e).1.ne ht (fun e' => hn e'.symm) rfl
  have ko : ∀ (g c : Nat) (xs : List Bool), OwB w base g c xs → o ≠ some g → OwB w' base g c xs := fun g c xs ho hn => own_of ho fun g' hg' _ => by
    obtain rfl : g = g' := by simpa [Value.ownBlock] using hg'
    exact kt _ _ ho.ty (by decide) hn
  have hO : ∀ j, j < w.heap.size → o ≠ some j → o' ≠ some j := fun j hj hn e => by
    rcases ho with rfl | ho
    · exact hn e
    · have := ho j e; omega
  refine ⟨vc, vi, gq, gm, cq, cm, ce, mb, md', bx_of hb (kt _ _ hb.ty (by decide) (k4 _ _ hb.ty (by decide))), h1, ⟨own_of hc fun g hg _ => ?_, own_of hi fun g hg _ => ?_⟩, ⟨ko _ _ _ hq m5, ko _ _ _ hm m6, ko _ _ _ he m4⟩, hS, ?_, ⟨m1, m2, m3, hO _ he.ty.lt m4⟩, ⟨hO _ hq.ty.lt m5, hO _ hm.ty.lt m6, fun j e hv => ?_⟩⟩
  · exact kt _ _ (own_ty hc hg).1 (by decide) (k4 _ _ (own_ty hc hg).1 (by decide))
  · exact kt _ _ (own_ty hi hg).1 (by decide) (fun e => m7 _ e hg)
  · have hlt : mb < w.heap.size := (Array.getElem?_eq_some_iff.1 h5).1
    refine (k.block mb hlt (fun e => ?_) (fun e => ?_)).trans h5
    · subst e; obtain ⟨c, hr⟩ := h4.ty; have e := Option.some.inj (h5.symm.trans hr); cases e
    · obtain ⟨c, hr⟩ := (h4.tyo e.symm).1; have e := Option.some.inj (h5.symm.trans hr); cases e
  · exact hO j (own_ty hi hv).1.lt (fun e' => m7 j e' hv) e
end
/-- Nothing that was there has turned, but for the machine's own four blocks. -/
structure Mp (b sb : Nat) (o : Option Nat) (ge : Nat) (w w' : World) : Prop where
  os : w'.os = w.os
  tape : w'.tape = w.tape
  output : w'.output = w.output
  size : w.heap.size ≤ w'.heap.size
  block : ∀ k, k < w.heap.size → k ≠ b → k ≠ sb → some k ≠ o → k ≠ ge → w'.heap[k]? = w.heap[k]?
section
variable {b sb : Nat} {o o' : Option Nat} {ge : Nat} {w w1 w2 : World}
theorem Mp.of_nx (h : Nx w w1) (b sb : Nat) (o : Option Nat) (ge : Nat) : Mp b sb o ge w w1 := ⟨h.os, h.tape, h.output, h.size, fun k hk _ _ _ _ => h.block k hk⟩
theorem Mp.of_mv (h : Mv b none w w1) (sb : Nat) (o : Option Nat) (ge : Nat) : Mp b sb o ge w w1 := ⟨h.os, h.tape, h.output, h.size, fun k hk h1 _ _ _ => h.block k hk h1 (by simp)⟩
theorem Mp.of_stk (h : Mv sb o w w1) (b ge : Nat) : Mp b sb o ge w w1 := ⟨h.os, h.tape, h.output, h.size, fun k hk _ h2 h3 _ => h.block k hk h2 h3⟩
theorem Mp.of_e (w : World) (b sb : Nat) (o : Option Nat) (ge p : Nat) (v : Value) : Mp b sb o ge w (w.setCell ⟨ge, p, none⟩ v) := ⟨rfl, rfl, rfl, by simp [World.setCell], fun k _ _ _ _ h4 => Deep.blk_setCell_other w _ v k h4⟩
theorem Mp.set (h : Mp b sb o ge w w1) (i : Nat) (v : Value) : Mp b sb o ge w (w1.setCell ⟨b, i, none⟩ v) :=
  ⟨h.os, h.tape, h.output, Nat.le_trans h.size (by simp [World.setCell]), fun k hk h1 h2 h3 h4 => (Deep.blk_setCell_other w1 _ v k h1).trans (h.block k hk h1 h2 h3 h4)⟩
theorem Mp.trans (h : Mp b sb o ge w w1) (k : Mp b sb o' ge w1 w2) (ho : o' = o ∨ ∀ j, o' = some j → w.heap.size ≤ j) : Mp b sb o ge w w2 :=
  ⟨k.os.trans h.os, k.tape.trans h.tape, k.output.trans h.output, Nat.le_trans h.size k.size, fun i hi h1 h2 h3 h4 =>
    (k.block i (Nat.lt_of_lt_of_le hi h.size) h1 h2 (by rcases ho with rfl | ho; exact h3; intro e; have := ho i e.symm; omega) h4).trans (h.block i hi h1 h2 h3 h4)⟩
theorem Mp.nx (h : Mp b sb o ge w w1) (k : Nx w1 w2) : Mp b sb o ge w w2 := h.trans (Mp.of_nx k b sb o ge) (.inl rfl)
theorem Nx.mp {W : World} (h : Nx W w) (k : Mp b sb o ge w w1) (hb : W.heap.size ≤ b) (hs : W.heap.size ≤ sb) (ho : ∀ j, o = some j → W.heap.size ≤ j) (hg : W.heap.size ≤ ge) : Nx W w1 :=
  ⟨k.os.trans h.os, k.tape.trans h.tape, k.output.trans h.output, Nat.le_trans h.size k.size, fun i hi =>
    (k.block i (Nat.lt_of_lt_of_le hi h.size) (by omega) (by omega) (fun e => by have := ho i e.symm; omega) (by omega)).trans (h.block i hi)⟩
end
/-- A method's answer where the instruction faults, and where it does not. -/
def MdNo (E : Int) (w : World) (e : Ending) (w' : World) : Prop := e = .returned (.int .i64 E) ∧ Nx w w'
def MdOk (base b sb : Nat) (o : Option Nat) (ge : Nat) (nN : Int) (code : List In4) (inp : List Bool) (sN : Mc) (w : World) (e : Ending) (w' : World) : Prop :=
  e = .returned (.int .i64 0) ∧ ∃ o', PM w' base b sb o' ge nN code inp sN ∧ (o' = o ∨ ∀ j, o' = some j → w.heap.size ≤ j) ∧ Mp b sb o ge w w'
end
section
open Go.RowKit

section
variable {w w' : World} {base b sb : Nat} {o : Option Nat} {ge : Nat} {nt : Int} {code : List In4} {inp : List Bool} {s : Mc}
theorem PM.cells (h : PM w base b sb o ge nt code inp s) : w.cell? ⟨b, 5, none⟩ = some (.int .i64 (s.pc : Int)) ∧ w.cell? ⟨b, 6, none⟩ = some (.bool s.acc) ∧ w.cell? ⟨b, 7, none⟩ = some (.pointer (some ⟨sb, 0, none⟩)) ∧ w.cell? ⟨b, 9, none⟩ = some (.int .i64 nt) ∧
    w.cell? ⟨b, 10, none⟩ = some (.bool s.hlt) ∧ w.cell? ⟨b, 11, none⟩ = some (.int .i64 s.flt) := by
  obtain ⟨vc, vi, gq, gm, cq, cm, ce, mb, md, hb, _⟩ := h
  exact ⟨hb.cell 5 rfl, hb.cell 6 rfl, hb.cell 7 rfl, hb.cell 9 rfl, hb.cell 10 rfl, hb.cell 11 rfl⟩
theorem PM.frozen (h : PM w base b sb o ge nt code inp s) (i : Nat) : w.frozen? ⟨b, i, none⟩ = false := by
  obtain ⟨vc, vi, gq, gm, cq, cm, ce, mb, md, hb, _⟩ := h; exact hb.frozen i
/-- The four images and the block's cells that hold them. -/
theorem PM.ims (h : PM w base b sb o ge nt code inp s) : ∃ Ai gq gm ci cq cm ce, (∀ w', Nx w w' → w'.cell? ⟨b, 1, none⟩ = some (.slice Ai inp.length ci) ∧ w'.cell? ⟨b, 2, none⟩ = some (.slice (some ⟨gq, 0, none⟩) s.q.length cq) ∧ w'.cell? ⟨b, 3, none⟩ = some (.slice (some ⟨gm, 0, none⟩) s.m.length cm) ∧ w'.cell? ⟨b, 4, none⟩ = some (.slice (some ⟨ge, 0, none⟩) s.e.length ce)) ∧
    (∀ w', Nx w w' → Im w' Ai inp.length ci inp ∧ Im w' (some ⟨gq, 0, none⟩) s.q.length cq s.q ∧ Im w' (some ⟨gm, 0, none⟩) s.m.length cm s.m ∧ Im w' (some ⟨ge, 0, none⟩) s.e.length ce s.e) ∧ OwB w base ge ce s.e := by
  obtain ⟨vc, vi, gq, gm, cq, cm, ce, mb, md, hb, h1, ⟨hc, hi⟩, ⟨hq, hm, he⟩, _⟩ := h
  obtain ⟨Ai, ci, rfl, ii⟩ := hi.im
  exact ⟨Ai, gq, gm, ci, cq, cm, ce, fun w' k => ⟨(hb.nx k).cell 1 rfl, (hb.nx k).cell 2 rfl, (hb.nx k).cell 3 rfl, (hb.nx k).cell 4 rfl⟩, fun w' k => ⟨ii.nx k, (hq.nx k).im rfl, (hm.nx k).im rfl, (he.nx k).im rfl⟩, he⟩
end

set_option maxHeartbeats 3200000 in
set_option maxRecDepth 100000 in
theorem vmRead_any (base b sb : Nat) (o : Option Nat) (ge : Nat) (nt : Int) (code : List In4) (inp : List Bool) (s : Mc) (k n : Int) (w : World) (h : PM w base b sb o ge nt code inp s) :
    Calls Try.prog 50 #[.pointer (some ⟨b, 0, none⟩), .agg #[.int .i64 k, .int .i64 n]] w fun e w' => e = .returned (.tuple #[.bool (rdSV inp s.q s.m k n), .int .i64 (rdSE inp s.q s.m k n)]) ∧ Nx w w' := by
  have hbl := h.lt
  obtain ⟨Ai, gq, gm, ci, cq, cm, ce, hC, hI, _⟩ := h.ims
  have HRD := Lib.hid (fun (w' : World) (k' : Nx w w') => read_any Ai inp.length ci (some ⟨gq, 0, none⟩) (some ⟨gm, 0, none⟩) (some ⟨ge, 0, none⟩) s.q.length s.m.length s.e.length cq cm ce inp s.q s.m k n w' (hI w' k').1 (hI w' k').2.1 (hI w' k').2.2.1)
  have HCC := Lib.hid hC
  generalize rdSV inp s.q s.m k n = V at *
  generalize rdSE inp s.q s.m k n = E at *
  generalize inp.length = Li at *
  generalize s.q.length = Lq at *
  generalize s.m.length = Lm at *
  generalize s.e.length = Le at *
  clear h hC hI
  have HX := Lib.hid (bx_new w 26 [.int .i64 k, .int .i64 n])
  have NX := Lib.hid (Nx.one w (.cells #[.int .i64 k, .int .i64 n] 26))
  have HS0 := Lib.hid (fun w' (kk : Nx (w.alloc (.cells #[.int .i64 k, .int .i64 n] 26)) w') => HCC.out w' (NX.out.trans kk))
  go_enter Try.func50, Try.ntmps50
  go_wp2_with fail
  generalize hW : w.alloc (.cells #[.int .i64 k, .int .i64 n] 26) = W at *
  generalize w.heap.size = g at *
  have HS := Lib.hid (show ∀ w', Nx W w' → w'.cell? ⟨b, 1, none⟩ = some (.slice Ai Li ci) ∧ w'.cell? ⟨b, 2, none⟩ = some (.slice (some ⟨gq, 0, none⟩) Lq cq) ∧ w'.cell? ⟨b, 3, none⟩ = some (.slice (some ⟨gm, 0, none⟩) Lm cm) ∧ w'.cell? ⟨b, 4, none⟩ = some (.slice (some ⟨ge, 0, none⟩) Le ce) ∧ w'.cell? ⟨g, 0, none⟩ = some (.int .i64 k) ∧ w'.cell? ⟨g, 1, none⟩ = some (.int .i64 n) from
    fun w' h => ⟨(HS0.out w' h).1, (HS0.out w' h).2.1, (HS0.out w' h).2.2.1, (HS0.out w' h).2.2.2, (HX.out.nx h).cell 0 rfl, (HX.out.nx h).cell 1 rfl⟩)
  obtain ⟨g1, g2, g3, g4, g5, g6⟩ := HS.out W (Nx.refl _)
  clear hW
  go_region_held3 (fun w' => w'.cell? ⟨b, 1, none⟩ = some (.slice Ai Li ci) ∧ w'.cell? ⟨b, 2, none⟩ = some (.slice (some ⟨gq, 0, none⟩) Lq cq) ∧ w'.cell? ⟨b, 3, none⟩ = some (.slice (some ⟨gm, 0, none⟩) Lm cm) ∧ w'.cell? ⟨b, 4, none⟩ = some (.slice (some ⟨ge, 0, none⟩) Le ce) ∧ w'.cell? ⟨g, 0, none⟩ = some (.int .i64 k) ∧ w'.cell? ⟨g, 1, none⟩ = some (.int .i64 n)) (first | go_keep | exact HS.out _ (Nx.refl _) | exact HS.out _ (Nx.refl _).drew | exact HS.out _ N2.out) ((first
    | (go_at_call 58; (with_reducible refine (HRD.out _ (NX.out.trans (by first | exact Nx.refl _ | exact (Nx.refl _).drew))).mono ?_); rintro e w2 ⟨rfl, hn2⟩; have N2 := Lib.hid (show Nx W w2 from (by first | exact hn2 | exact ((Nx.refl _).drew).trans hn2)); clear hn2)))
  clear g1 g2 g3 g4 g5 g6 HS HX HRD HCC HS0
  go_wp2
  go_ret2
  exact ⟨rfl, NX.out.trans N2.out⟩

set_option maxHeartbeats 800000 in
set_option maxRecDepth 100000 in
theorem vmSetAcc_no (b : Nat) (v : Bool) (E : Int) (hE : E ≠ 0) (w : World) :
    Calls Try.prog 51 #[.pointer (some ⟨b, 0, none⟩), .bool v, .int .i64 E] w fun e w' => e = .returned (.int .i64 E) ∧ w = w' := by
  go_enter Try.func51, Try.ntmps51
  go_wp2
  go_ret
  exact ⟨rfl, rfl⟩
set_option maxHeartbeats 800000 in
set_option maxRecDepth 100000 in
theorem vmSetAcc_ok (b : Nat) (v : Bool) (u : Value) (w : World) (c6 : w.cell? ⟨b, 6, none⟩ = some u) (f6 : w.frozen? ⟨b, 6, none⟩ = false) :
    Calls Try.prog 51 #[.pointer (some ⟨b, 0, none⟩), .bool v, .int .i64 0] w fun e w' => e = .returned (.int .i64 0) ∧ w' = w.setCell ⟨b, 6, none⟩ (.bool v) := by
  go_enter Try.func51, Try.ntmps51
  go_wp2
  go_ret
  exact ⟨rfl, rfl⟩
/-- .. of a machine. -/
theorem vmSetAcc_pm (base b sb : Nat) (o : Option Nat) (ge : Nat) (nt : Int) (code : List In4) (inp : List Bool) (s : Mc) (v : Bool) (w : World) (h : PM w base b sb o ge nt code inp s) :
    Calls Try.prog 51 #[.pointer (some ⟨b, 0, none⟩), .bool v, .int .i64 0] w fun e w' => e = .returned (.int .i64 0) ∧ PM w' base b sb o ge nt code inp { s with acc := v } ∧ Mp b sb o ge w w' :=
  (vmSetAcc_ok b v _ w h.cells.2.1 (h.frozen 6)).mono fun e w' hh => by
    obtain ⟨rfl, rfl⟩ := hh
    exact ⟨rfl, h.setAcc v, (Mp.of_nx (Nx.refl w) b sb o ge).set 6 _⟩
end
section
open Go.RowKit

set_option maxHeartbeats 1600000 in
set_option maxRecDepth 100000 in
theorem vmLg_no_0 (base b sb : Nat) (o : Option Nat) (ge : Nat) (nt : Int) (code : List In4) (inp : List Bool) (s : Mc) (op k n t : Int) (w : World) (h : PM w base b sb o ge nt code inp s) (hE : bitE inp s ⟨op, k, n, t⟩ ≠ 0) :
    Calls Try.prog 31 #[.pointer (some ⟨b, 0, none⟩), .agg #[.int .i64 op, .int .i64 k, .int .i64 n, .int .i64 t]] w (MdNo (bitE inp s ⟨op, k, n, t⟩) w) := by
  have P := Lib.hid h
  have CR := Lib.hid (fun (w' : World) (k' : Nx w w') => vmRead_any base b sb o ge nt code inp s k n w' (h.nx k'))
  have NX := Lib.hid (Nx.one w (.cells #[.int .i64 op, .int .i64 k, .int .i64 n, .int .i64 t] 28))
  have HX := bx_new w 28 [.int .i64 op, .int .i64 k, .int .i64 n, .int .i64 t]
  have x1 := HX.cell 1 rfl
  have x2 := HX.cell 2 rfl
  have hE2 : rdSE inp s.q s.m k n ≠ 0 := hE
  obtain ⟨V, hV⟩ : ∃ V, V = rdSV inp s.q s.m k n := ⟨_, rfl⟩
  obtain ⟨a0, ha⟩ : ∃ a0, a0 = s.acc := ⟨_, rfl⟩
  unfold MdNo bitE
  rw [← hV] at CR
  have HA := Lib.hid ha
  obtain ⟨E, hE'⟩ : ∃ E, E = rdSE inp s.q s.m k n := ⟨_, rfl⟩
  have e0 : E ≠ 0 := by rw [hE']; exact hE2
  simp only
  rw [← hE'] at CR ⊢
  clear hE2 hE' hV ha
  clear h hE HX
  go_enter Try.func31, Try.ntmps31
  go_wp2_with fail
  refine (CR.out _ NX.out).mono ?_
  rintro e w2 ⟨rfl, hn⟩
  have N2 := Lib.hid (NX.out.trans hn)
  have P2 := Lib.hid (P.out.nx N2.out)
  have c6 : w2.cell? ⟨b, 6, none⟩ = some (.bool a0) := by rw [show a0 = s.acc from HA.out]; exact P2.out.cells.2.1
  clear hn x1 x2 NX CR P
  cases a0
  all_goals
    cases V
    all_goals
      go_wp2_with fail
      refine (vmSetAcc_no b _ E e0 _).mono ?_
      rintro e w3 ⟨rfl, rfl⟩
      clear c6
      go_wp2
      go_ret
      exact ⟨rfl, N2.out⟩
set_option maxHeartbeats 1600000 in
set_option maxRecDepth 100000 in
theorem vmLg_ok_0 (base b sb : Nat) (o : Option Nat) (ge : Nat) (nt : Int) (code : List In4) (inp : List Bool) (s : Mc) (op k n t : Int) (w : World) (h : PM w base b sb o ge nt code inp s) (hE : bitE inp s ⟨op, k, n, t⟩ = 0) :
    Calls Try.prog 31 #[.pointer (some ⟨b, 0, none⟩), .agg #[.int .i64 op, .int .i64 k, .int .i64 n, .int .i64 t]] w (MdOk base b sb o ge nt code inp { s with acc := lgA 0 s.acc (bitV inp s ⟨op, k, n, t⟩) } w) := by
  have P := Lib.hid h
  have CR := Lib.hid (fun (w' : World) (k' : Nx w w') => vmRead_any base b sb o ge nt code inp s k n w' (h.nx k'))
  have NX := Lib.hid (Nx.one w (.cells #[.int .i64 op, .int .i64 k, .int .i64 n, .int .i64 t] 28))
  have HX := bx_new w 28 [.int .i64 op, .int .i64 k, .int .i64 n, .int .i64 t]
  have x1 := HX.cell 1 rfl
  have x2 := HX.cell 2 rfl
  have hE2 : rdSE inp s.q s.m k n = 0 := hE
  obtain ⟨V, hV⟩ : ∃ V, V = rdSV inp s.q s.m k n := ⟨_, rfl⟩
  obtain ⟨a0, ha⟩ : ∃ a0, a0 = s.acc := ⟨_, rfl⟩
  unfold MdOk bitV
  rw [← hV, hE2] at CR
  simp only
  rw [← hV]
  have HA := Lib.hid ha
  clear hE2 hV ha
  clear h hE HX
  go_enter Try.func31, Try.ntmps31
  go_wp2_with fail
  refine (CR.out _ NX.out).mono ?_
  rintro e w2 ⟨rfl, hn⟩
  have N2 := Lib.hid (NX.out.trans hn)
  have P2 := Lib.hid (P.out.nx N2.out)
  have c6 : w2.cell? ⟨b, 6, none⟩ = some (.bool a0) := by rw [show a0 = s.acc from HA.out]; exact P2.out.cells.2.1
  clear hn x1 x2 NX CR P
  have SA := Lib.hid (fun (v : Bool) (hv : v = lgA 0 a0 V) => (vmSetAcc_pm base b sb o ge nt code inp s v w2 P2.out).mono (fun e w3 (hh : e = .returned (.int .i64 0) ∧ PM w3 base b sb o ge nt code inp { s with acc := v } ∧ Mp b sb o ge w2 w3) => (show e = .returned (.int .i64 0) ∧ PM w3 base b sb o ge nt code inp { s with acc := lgA 0 s.acc V } ∧ Mp b sb o ge w2 w3 from by rw [← show a0 = s.acc from HA.out, ← hv]; exact hh)))
  cases a0
  all_goals
    cases V
    all_goals
      go_wp2_with fail
      refine (SA.out _ (by decide)).mono ?_
      rintro e w3 ⟨rfl, hp, hm⟩
      have P3 := Lib.hid hp
      have M3 := Lib.hid ((Mp.of_nx N2.out b sb o ge).trans hm (.inl rfl))
      clear c6 hp hm SA
      go_wp2
      go_ret
      exact ⟨rfl, o, P3.out, .inl rfl, M3.out⟩
set_option maxHeartbeats 1600000 in
set_option maxRecDepth 100000 in
theorem vmLg_no_1 (base b sb : Nat) (o : Option Nat) (ge : Nat) (nt : Int) (code : List In4) (inp : List Bool) (s : Mc) (op k n t : Int) (w : World) (h : PM w base b sb o ge nt code inp s) (hE : bitE inp s ⟨op, k, n, t⟩ ≠ 0) :
    Calls Try.prog 32 #[.pointer (some ⟨b, 0, none⟩), .agg #[.int .i64 op, .int .i64 k, .int .i64 n, .int .i64 t]] w (MdNo (bitE inp s ⟨op, k, n, t⟩) w) := by
  have P := Lib.hid h
  have CR := Lib.hid (fun (w' : World) (k' : Nx w w') => vmRead_any base b sb o ge nt code inp s k n w' (h.nx k'))
  have NX := Lib.hid (Nx.one w (.cells #[.int .i64 op, .int .i64 k, .int .i64 n, .int .i64 t] 28))
  have HX := bx_new w 28 [.int .i64 op, .int .i64 k, .int .i64 n, .int .i64 t]
  have x1 := HX.cell 1 rfl
  have x2 := HX.cell 2 rfl
  have hE2 : rdSE inp s.q s.m k n ≠ 0 := hE
  obtain ⟨V, hV⟩ : ∃ V, V = rdSV inp s.q s.m k n := ⟨_, rfl⟩
  obtain ⟨a0, ha⟩ : ∃ a0, a0 = s.acc := ⟨_, rfl⟩
  unfold MdNo bitE
  rw [← hV] at CR
  have HA := Lib.hid ha
  obtain ⟨E, hE'⟩ : ∃ E, E = rdSE inp s.q s.m k n := ⟨_, rfl⟩
  have e0 : E ≠ 0 := by rw [hE']; exact hE2
  simp only
  rw [← hE'] at CR ⊢
  clear hE2 hE' hV ha
  clear h hE HX
  go_enter Try.func32, Try.ntmps32
  go_wp2_with fail
  refine (CR.out _ NX.out).mono ?_
  rintro e w2 ⟨rfl, hn⟩
  have N2 := Lib.hid (NX.out.trans hn)
  have P2 := Lib.hid (P.out.nx N2.out)
  have c6 : w2.cell? ⟨b, 6, none⟩ = some (.bool a0) := by rw [show a0 = s.acc from HA.out]; exact P2.out.cells.2.1
  clear hn x1 x2 NX CR P
  cases a0
  all_goals
    cases V
    all_goals
      go_wp2_with fail
      refine (vmSetAcc_no b _ E e0 _).mono ?_
      rintro e w3 ⟨rfl, rfl⟩
      clear c6
      go_wp2
      go_ret
      exact ⟨rfl, N2.out⟩
set_option maxHeartbeats 1600000 in
set_option maxRecDepth 100000 in
theorem vmLg_ok_1 (base b sb : Nat) (o : Option Nat) (ge : Nat) (nt : Int) (code : List In4) (inp : List Bool) (s : Mc) (op k n t : Int) (w : World) (h : PM w base b sb o ge nt code inp s) (hE : bitE inp s ⟨op, k, n, t⟩ = 0) :
    Calls Try.prog 32 #[.pointer (some ⟨b, 0, none⟩), .agg #[.int .i64 op, .int .i64 k, .int .i64 n, .int .i64 t]] w (MdOk base b sb o ge nt code inp { s with acc := lgA 1 s.acc (bitV inp s ⟨op, k, n, t⟩) } w) := by
  have P := Lib.hid h
  have CR := Lib.hid (fun (w' : World) (k' : Nx w w') => vmRead_any base b sb o ge nt code inp s k n w' (h.nx k'))
  have NX := Lib.hid (Nx.one w (.cells #[.int .i64 op, .int .i64 k, .int .i64 n, .int .i64 t] 28))
  have HX := bx_new w 28 [.int .i64 op, .int .i64 k, .int .i64 n, .int .i64 t]
  have x1 := HX.cell 1 rfl
  have x2 := HX.cell 2 rfl
  have hE2 : rdSE inp s.q s.m k n = 0 := hE
  obtain ⟨V, hV⟩ : ∃ V, V = rdSV inp s.q s.m k n := ⟨_, rfl⟩
  obtain ⟨a0, ha⟩ : ∃ a0, a0 = s.acc := ⟨_, rfl⟩
  unfold MdOk bitV
  rw [← hV, hE2] at CR
  simp only
  rw [← hV]
  have HA := Lib.hid ha
  clear hE2 hV ha
  clear h hE HX
  go_enter Try.func32, Try.ntmps32
  go_wp2_with fail
  refine (CR.out _ NX.out).mono ?_
  rintro e w2 ⟨rfl, hn⟩
  have N2 := Lib.hid (NX.out.trans hn)
  have P2 := Lib.hid (P.out.nx N2.out)
  have c6 : w2.cell? ⟨b, 6, none⟩ = some (.bool a0) := by rw [show a0 = s.acc from HA.out]; exact P2.out.cells.2.1
  clear hn x1 x2 NX CR P
  have SA := Lib.hid (fun (v : Bool) (hv : v = lgA 1 a0 V) => (vmSetAcc_pm base b sb o ge nt code inp s v w2 P2.out).mono (fun e w3 (hh : e = .returned (.int .i64 0) ∧ PM w3 base b sb o ge nt code inp { s with acc := v } ∧ Mp b sb o ge w2 w3) => (show e = .returned (.int .i64 0) ∧ PM w3 base b sb o ge nt code inp { s with acc := lgA 1 s.acc V } ∧ Mp b sb o ge w2 w3 from by rw [← show a0 = s.acc from HA.out, ← hv]; exact hh)))
  cases a0
  all_goals
    cases V
    all_goals
      go_wp2_with fail
      refine (SA.out _ (by decide)).mono ?_
      rintro e w3 ⟨rfl, hp, hm⟩
      have P3 := Lib.hid hp
      have M3 := Lib.hid ((Mp.of_nx N2.out b sb o ge).trans hm (.inl rfl))
      clear c6 hp hm SA
      go_wp2
      go_ret
      exact ⟨rfl, o, P3.out, .inl rfl, M3.out⟩
set_option maxHeartbeats 1600000 in
set_option maxRecDepth 100000 in
theorem vmLg_no_2 (base b sb : Nat) (o : Option Nat) (ge : Nat) (nt : Int) (code : List In4) (inp : List Bool) (s : Mc) (op k n t : Int) (w : World) (h : PM w base b sb o ge nt code inp s) (hE : bitE inp s ⟨op, k, n, t⟩ ≠ 0) :
    Calls Try.prog 33 #[.pointer (some ⟨b, 0, none⟩), .agg #[.int .i64 op, .int .i64 k, .int .i64 n, .int .i64 t]] w (MdNo (bitE inp s ⟨op, k, n, t⟩) w) := by
  have P := Lib.hid h
  have CR := Lib.hid (fun (w' : World) (k' : Nx w w') => vmRead_any base b sb o ge nt code inp s k n w' (h.nx k'))
  have NX := Lib.hid (Nx.one w (.cells #[.int .i64 op, .int .i64 k, .int .i64 n, .int .i64 t] 28))
  have HX := bx_new w 28 [.int .i64 op, .int .i64 k, .int .i64 n, .int .i64 t]
  have x1 := HX.cell 1 rfl
  have x2 := HX.cell 2 rfl
  have hE2 : rdSE inp s.q s.m k n ≠ 0 := hE
  obtain ⟨V, hV⟩ : ∃ V, V = rdSV inp s.q s.m k n := ⟨_, rfl⟩
  obtain ⟨a0, ha⟩ : ∃ a0, a0 = s.acc := ⟨_, rfl⟩
  unfold MdNo bitE
  rw [← hV] at CR
  have HA := Lib.hid ha
  obtain ⟨E, hE'⟩ : ∃ E, E = rdSE inp s.q s.m k n := ⟨_, rfl⟩
  have e0 : E ≠ 0 := by rw [hE']; exact hE2
  simp only
  rw [← hE'] at CR ⊢
  clear hE2 hE' hV ha
  clear h hE HX
  go_enter Try.func33, Try.ntmps33
  go_wp2_with fail
  refine (CR.out _ NX.out).mono ?_
  rintro e w2 ⟨rfl, hn⟩
  have N2 := Lib.hid (NX.out.trans hn)
  have P2 := Lib.hid (P.out.nx N2.out)
  have c6 : w2.cell? ⟨b, 6, none⟩ = some (.bool a0) := by rw [show a0 = s.acc from HA.out]; exact P2.out.cells.2.1
  clear hn x1 x2 NX CR P
  cases a0
  all_goals
    cases V
    all_goals
      go_wp2_with fail
      refine (vmSetAcc_no b _ E e0 _).mono ?_
      rintro e w3 ⟨rfl, rfl⟩
      clear c6
      go_wp2
      go_ret
      exact ⟨rfl, N2.out⟩
set_option maxHeartbeats 1600000 in
set_option maxRecDepth 100000 in
theorem vmLg_ok_2 (base b sb : Nat) (o : Option Nat) (ge : Nat) (nt : Int) (code : List In4) (inp : List Bool) (s : Mc) (op k n t : Int) (w : World) (h : PM w base b sb o ge nt code inp s) (hE : bitE inp s ⟨op, k, n, t⟩ = 0) :
    Calls Try.prog 33 #[.pointer (some ⟨b, 0, none⟩), .agg #[.int .i64 op, .int .i64 k, .int .i64 n, .int .i64 t]] w (MdOk base b sb o ge nt code inp { s with acc := lgA 2 s.acc (bitV inp s ⟨op, k, n, t⟩) } w) := by
  have P := Lib.hid h
  have CR := Lib.hid (fun (w' : World) (k' : Nx w w') => vmRead_any base b sb o ge nt code inp s k n w' (h.nx k'))
  have NX := Lib.hid (Nx.one w (.cells #[.int .i64 op, .int .i64 k, .int .i64 n, .int .i64 t] 28))
  have HX := bx_new w 28 [.int .i64 op, .int .i64 k, .int .i64 n, .int .i64 t]
  have x1 := HX.cell 1 rfl
  have x2 := HX.cell 2 rfl
  have hE2 : rdSE inp s.q s.m k n = 0 := hE
  obtain ⟨V, hV⟩ : ∃ V, V = rdSV inp s.q s.m k n := ⟨_, rfl⟩
  obtain ⟨a0, ha⟩ : ∃ a0, a0 = s.acc := ⟨_, rfl⟩
  unfold MdOk bitV
  rw [← hV, hE2] at CR
  simp only
  rw [← hV]
  have HA := Lib.hid ha
  clear hE2 hV ha
  clear h hE HX
  go_enter Try.func33, Try.ntmps33
  go_wp2_with fail
  refine (CR.out _ NX.out).mono ?_
  rintro e w2 ⟨rfl, hn⟩
  have N2 := Lib.hid (NX.out.trans hn)
  have P2 := Lib.hid (P.out.nx N2.out)
  have c6 : w2.cell? ⟨b, 6, none⟩ = some (.bool a0) := by rw [show a0 = s.acc from HA.out]; exact P2.out.cells.2.1
  clear hn x1 x2 NX CR P
  have SA := Lib.hid (fun (v : Bool) (hv : v = lgA 2 a0 V) => (vmSetAcc_pm base b sb o ge nt code inp s v w2 P2.out).mono (fun e w3 (hh : e = .returned (.int .i64 0) ∧ PM w3 base b sb o ge nt code inp { s with acc := v } ∧ Mp b sb o ge w2 w3) => (show e = .returned (.int .i64 0) ∧ PM w3 base b sb o ge nt code inp { s with acc := lgA 2 s.acc V } ∧ Mp b sb o ge w2 w3 from by rw [← show a0 = s.acc from HA.out, ← hv]; exact hh)))
  cases a0
  all_goals
    cases V
    all_goals
      go_wp2_with fail
      refine (SA.out _ (by decide)).mono ?_
      rintro e w3 ⟨rfl, hp, hm⟩
      have P3 := Lib.hid hp
      have M3 := Lib.hid ((Mp.of_nx N2.out b sb o ge).trans hm (.inl rfl))
      clear c6 hp hm SA
      go_wp2
      go_ret
      exact ⟨rfl, o, P3.out, .inl rfl, M3.out⟩
set_option maxHeartbeats 1600000 in
set_option maxRecDepth 100000 in
theorem vmLg_no_3 (base b sb : Nat) (o : Option Nat) (ge : Nat) (nt : Int) (code : List In4) (inp : List Bool) (s : Mc) (op k n t : Int) (w : World) (h : PM w base b sb o ge nt code inp s) (hE : bitE inp s ⟨op, k, n, t⟩ ≠ 0) :
    Calls Try.prog 34 #[.pointer (some ⟨b, 0, none⟩), .agg #[.int .i64 op, .int .i64 k, .int .i64 n, .int .i64 t]] w (MdNo (bitE inp s ⟨op, k, n, t⟩) w) := by
  have P := Lib.hid h
  have CR := Lib.hid (fun (w' : World) (k' : Nx w w') => vmRead_any base b sb o ge nt code inp s k n w' (h.nx k'))
  have NX := Lib.hid (Nx.one w (.cells #[.int .i64 op, .int .i64 k, .int .i64 n, .int .i64 t] 28))
  have HX := bx_new w 28 [.int .i64 op, .int .i64 k, .int .i64 n, .int .i64 t]
  have x1 := HX.cell 1 rfl
  have x2 := HX.cell 2 rfl
  have hE2 : rdSE inp s.q s.m k n ≠ 0 := hE
  obtain ⟨V, hV⟩ : ∃ V, V = rdSV inp s.q s.m k n := ⟨_, rfl⟩
  obtain ⟨a0, ha⟩ : ∃ a0, a0 = s.acc := ⟨_, rfl⟩
  unfold MdNo bitE
  rw [← hV] at CR
  have HA := Lib.hid ha
  obtain ⟨E, hE'⟩ : ∃ E, E = rdSE inp s.q s.m k n := ⟨_, rfl⟩
  have e0 : E ≠ 0 := by rw [hE']; exact hE2
  simp only
  rw [← hE'] at CR ⊢
  clear hE2 hE' hV ha
  clear h hE HX
  go_enter Try.func34, Try.ntmps34
  go_wp2_with fail
  refine (CR.out _ NX.out).mono ?_
  rintro e w2 ⟨rfl, hn⟩
  have N2 := Lib.hid (NX.out.trans hn)
  have P2 := Lib.hid (P.out.nx N2.out)
  have c6 : w2.cell? ⟨b, 6, none⟩ = some (.bool a0) := by rw [show a0 = s.acc from HA.out]; exact P2.out.cells.2.1
  clear hn x1 x2 NX CR P
  cases a0
  all_goals
    cases V
    all_goals
      go_wp2_with fail
      refine (vmSetAcc_no b _ E e0 _).mono ?_
      rintro e w3 ⟨rfl, rfl⟩
      clear c6
      go_wp2
      go_ret
      exact ⟨rfl, N2.out⟩
set_option maxHeartbeats 1600000 in
set_option maxRecDepth 100000 in
theorem vmLg_ok_3 (base b sb : Nat) (o : Option Nat) (ge : Nat) (nt : Int) (code : List In4) (inp : List Bool) (s : Mc) (op k n t : Int) (w : World) (h : PM w base b sb o ge nt code inp s) (hE : bitE inp s ⟨op, k, n, t⟩ = 0) :
    Calls Try.prog 34 #[.pointer (some ⟨b, 0, none⟩), .agg #[.int .i64 op, .int .i64 k, .int .i64 n, .int .i64 t]] w (MdOk base b sb o ge nt code inp { s with acc := lgA 3 s.acc (bitV inp s ⟨op, k, n, t⟩) } w) := by
  have P := Lib.hid h
  have CR := Lib.hid (fun (w' : World) (k' : Nx w w') => vmRead_any base b sb o ge nt code inp s k n w' (h.nx k'))
  have NX := Lib.hid (Nx.one w (.cells #[.int .i64 op, .int .i64 k, .int .i64 n, .int .i64 t] 28))
  have HX := bx_new w 28 [.int .i64 op, .int .i64 k, .int .i64 n, .int .i64 t]
  have x1 := HX.cell 1 rfl
  have x2 := HX.cell 2 rfl
  have hE2 : rdSE inp s.q s.m k n = 0 := hE
  obtain ⟨V, hV⟩ : ∃ V, V = rdSV inp s.q s.m k n := ⟨_, rfl⟩
  obtain ⟨a0, ha⟩ : ∃ a0, a0 = s.acc := ⟨_, rfl⟩
  unfold MdOk bitV
  rw [← hV, hE2] at CR
  simp only
  rw [← hV]
  have HA := Lib.hid ha
  clear hE2 hV ha
  clear h hE HX
  go_enter Try.func34, Try.ntmps34
  go_wp2_with fail
  refine (CR.out _ NX.out).mono ?_
  rintro e w2 ⟨rfl, hn⟩
  have N2 := Lib.hid (NX.out.trans hn)
  have P2 := Lib.hid (P.out.nx N2.out)
  have c6 : w2.cell? ⟨b, 6, none⟩ = some (.bool a0) := by rw [show a0 = s.acc from HA.out]; exact P2.out.cells.2.1
  clear hn x1 x2 NX CR P
  have SA := Lib.hid (fun (v : Bool) (hv : v = lgA 3 a0 V) => (vmSetAcc_pm base b sb o ge nt code inp s v w2 P2.out).mono (fun e w3 (hh : e = .returned (.int .i64 0) ∧ PM w3 base b sb o ge nt code inp { s with acc := v } ∧ Mp b sb o ge w2 w3) => (show e = .returned (.int .i64 0) ∧ PM w3 base b sb o ge nt code inp { s with acc := lgA 3 s.acc V } ∧ Mp b sb o ge w2 w3 from by rw [← show a0 = s.acc from HA.out, ← hv]; exact hh)))
  cases a0
  all_goals
    cases V
    all_goals
      go_wp2_with fail
      refine (SA.out _ (by decide)).mono ?_
      rintro e w3 ⟨rfl, hp, hm⟩
      have P3 := Lib.hid hp
      have M3 := Lib.hid ((Mp.of_nx N2.out b sb o ge).trans hm (.inl rfl))
      clear c6 hp hm SA
      go_wp2
      go_ret
      exact ⟨rfl, o, P3.out, .inl rfl, M3.out⟩
set_option maxHeartbeats 1600000 in
set_option maxRecDepth 100000 in
theorem vmLg_no_4 (base b sb : Nat) (o : Option Nat) (ge : Nat) (nt : Int) (code : List In4) (inp : List Bool) (s : Mc) (op k n t : Int) (w : World) (h : PM w base b sb o ge nt code inp s) (hE : bitE inp s ⟨op, k, n, t⟩ ≠ 0) :
    Calls Try.prog 35 #[.pointer (some ⟨b, 0, none⟩), .agg #[.int .i64 op, .int .i64 k, .int .i64 n, .int .i64 t]] w (MdNo (bitE inp s ⟨op, k, n, t⟩) w) := by
  have P := Lib.hid h
  have CR := Lib.hid (fun (w' : World) (k' : Nx w w') => vmRead_any base b sb o ge nt code inp s k n w' (h.nx k'))
  have NX := Lib.hid (Nx.one w (.cells #[.int .i64 op, .int .i64 k, .int .i64 n, .int .i64 t] 28))
  have HX := bx_new w 28 [.int .i64 op, .int .i64 k, .int .i64 n, .int .i64 t]
  have x1 := HX.cell 1 rfl
  have x2 := HX.cell 2 rfl
  have hE2 : rdSE inp s.q s.m k n ≠ 0 := hE
  obtain ⟨V, hV⟩ : ∃ V, V = rdSV inp s.q s.m k n := ⟨_, rfl⟩
  obtain ⟨a0, ha⟩ : ∃ a0, a0 = s.acc := ⟨_, rfl⟩
  unfold MdNo bitE
  rw [← hV] at CR
  have HA := Lib.hid ha
  obtain ⟨E, hE'⟩ : ∃ E, E = rdSE inp s.q s.m k n := ⟨_, rfl⟩
  have e0 : E ≠ 0 := by rw [hE']; exact hE2
  simp only
  rw [← hE'] at CR ⊢
  clear hE2 hE' hV ha
  clear h hE HX
  go_enter Try.func35, Try.ntmps35
  go_wp2_with fail
  refine (CR.out _ NX.out).mono ?_
  rintro e w2 ⟨rfl, hn⟩
  have N2 := Lib.hid (NX.out.trans hn)
  have P2 := Lib.hid (P.out.nx N2.out)
  have c6 : w2.cell? ⟨b, 6, none⟩ = some (.bool a0) := by rw [show a0 = s.acc from HA.out]; exact P2.out.cells.2.1
  clear hn x1 x2 NX CR P
  cases a0
  all_goals
    cases V
    all_goals
      go_wp2_with fail
      refine (vmSetAcc_no b _ E e0 _).mono ?_
      rintro e w3 ⟨rfl, rfl⟩
      clear c6
      go_wp2
      go_ret
      exact ⟨rfl, N2.out⟩
set_option maxHeartbeats 1600000 in
set_option maxRecDepth 100000 in
theorem vmLg_ok_4 (base b sb : Nat) (o : Option Nat) (ge : Nat) (nt : Int) (code : List In4) (inp : List Bool) (s : Mc) (op k n t : Int) (w : World) (h : PM w base b sb o ge nt code inp s) (hE : bitE inp s ⟨op, k, n, t⟩ = 0) :
    Calls Try.prog 35 #[.pointer (some ⟨b, 0, none⟩), .agg #[.int .i64 op, .int .i64 k, .int .i64 n, .int .i64 t]] w (MdOk base b sb o ge nt code inp { s with acc := lgA 4 s.acc (bitV inp s ⟨op, k, n, t⟩) } w) := by
  have P := Lib.hid h
  have CR := Lib.hid (fun (w' : World) (k' : Nx w w') => vmRead_any base b sb o ge nt code inp s k n w' (h.nx k'))
  have NX := Lib.hid (Nx.one w (.cells #[.int .i64 op, .int .i64 k, .int .i64 n, .int .i64 t] 28))
  have HX := bx_new w 28 [.int .i64 op, .int .i64 k, .int .i64 n, .int .i64 t]
  have x1 := HX.cell 1 rfl
  have x2 := HX.cell 2 rfl
  have hE2 : rdSE inp s.q s.m k n = 0 := hE
  obtain ⟨V, hV⟩ : ∃ V, V = rdSV inp s.q s.m k n := ⟨_, rfl⟩
  obtain ⟨a0, ha⟩ : ∃ a0, a0 = s.acc := ⟨_, rfl⟩
  unfold MdOk bitV
  rw [← hV, hE2] at CR
  simp only
  rw [← hV]
  have HA := Lib.hid ha
  clear hE2 hV ha
  clear h hE HX
  go_enter Try.func35, Try.ntmps35
  go_wp2_with fail
  refine (CR.out _ NX.out).mono ?_
  rintro e w2 ⟨rfl, hn⟩
  have N2 := Lib.hid (NX.out.trans hn)
  have P2 := Lib.hid (P.out.nx N2.out)
  have c6 : w2.cell? ⟨b, 6, none⟩ = some (.bool a0) := by rw [show a0 = s.acc from HA.out]; exact P2.out.cells.2.1
  clear hn x1 x2 NX CR P
  have SA := Lib.hid (fun (v : Bool) (hv : v = lgA 4 a0 V) => (vmSetAcc_pm base b sb o ge nt code inp s v w2 P2.out).mono (fun e w3 (hh : e = .returned (.int .i64 0) ∧ PM w3 base b sb o ge nt code inp { s with acc := v } ∧ Mp b sb o ge w2 w3) => (show e = .returned (.int .i64 0) ∧ PM w3 base b sb o ge nt code inp { s with acc := lgA 4 s.acc V } ∧ Mp b sb o ge w2 w3 from by rw [← show a0 = s.acc from HA.out, ← hv]; exact hh)))
  cases a0
  all_goals
    cases V
    all_goals
      go_wp2_with fail
      refine (SA.out _ (by decide)).mono ?_
      rintro e w3 ⟨rfl, hp, hm⟩
      have P3 := Lib.hid hp
      have M3 := Lib.hid ((Mp.of_nx N2.out b sb o ge).trans hm (.inl rfl))
      clear c6 hp hm SA
      go_wp2
      go_ret
      exact ⟨rfl, o, P3.out, .inl rfl, M3.out⟩
set_option maxHeartbeats 1600000 in
set_option maxRecDepth 100000 in
theorem vmLg_no_5 (base b sb : Nat) (o : Option Nat) (ge : Nat) (nt : Int) (code : List In4) (inp : List Bool) (s : Mc) (op k n t : Int) (w : World) (h : PM w base b sb o ge nt code inp s) (hE : bitE inp s ⟨op, k, n, t⟩ ≠ 0) :
    Calls Try.prog 36 #[.pointer (some ⟨b, 0, none⟩), .agg #[.int .i64 op, .int .i64 k, .int .i64 n, .int .i64 t]] w (MdNo (bitE inp s ⟨op, k, n, t⟩) w) := by
  have P := Lib.hid h
  have CR := Lib.hid (fun (w' : World) (k' : Nx w w') => vmRead_any base b sb o ge nt code inp s k n w' (h.nx k'))
  have NX := Lib.hid (Nx.one w (.cells #[.int .i64 op, .int .i64 k, .int .i64 n, .int .i64 t] 28))
  have HX := bx_new w 28 [.int .i64 op, .int .i64 k, .int .i64 n, .int .i64 t]
  have x1 := HX.cell 1 rfl
  have x2 := HX.cell 2 rfl
  have hE2 : rdSE inp s.q s.m k n ≠ 0 := hE
  obtain ⟨V, hV⟩ : ∃ V, V = rdSV inp s.q s.m k n := ⟨_, rfl⟩
  obtain ⟨a0, ha⟩ : ∃ a0, a0 = s.acc := ⟨_, rfl⟩
  unfold MdNo bitE
  rw [← hV] at CR
  have HA := Lib.hid ha
  obtain ⟨E, hE'⟩ : ∃ E, E = rdSE inp s.q s.m k n := ⟨_, rfl⟩
  have e0 : E ≠ 0 := by rw [hE']; exact hE2
  simp only
  rw [← hE'] at CR ⊢
  clear hE2 hE' hV ha
  clear h hE HX
  go_enter Try.func36, Try.ntmps36
  go_wp2_with fail
  refine (CR.out _ NX.out).mono ?_
  rintro e w2 ⟨rfl, hn⟩
  have N2 := Lib.hid (NX.out.trans hn)
  have P2 := Lib.hid (P.out.nx N2.out)
  have c6 : w2.cell? ⟨b, 6, none⟩ = some (.bool a0) := by rw [show a0 = s.acc from HA.out]; exact P2.out.cells.2.1
  clear hn x1 x2 NX CR P
  cases a0
  all_goals
    cases V
    all_goals
      go_wp2_with fail
      refine (vmSetAcc_no b _ E e0 _).mono ?_
      rintro e w3 ⟨rfl, rfl⟩
      clear c6
      go_wp2
      go_ret
      exact ⟨rfl, N2.out⟩
set_option maxHeartbeats 1600000 in
set_option maxRecDepth 100000 in
theorem vmLg_ok_5 (base b sb : Nat) (o : Option Nat) (ge : Nat) (nt : Int) (code : List In4) (inp : List Bool) (s : Mc) (op k n t : Int) (w : World) (h : PM w base b sb o ge nt code inp s) (hE : bitE inp s ⟨op, k, n, t⟩ = 0) :
    Calls Try.prog 36 #[.pointer (some ⟨b, 0, none⟩), .agg #[.int .i64 op, .int .i64 k, .int .i64 n, .int .i64 t]] w (MdOk base b sb o ge nt code inp { s with acc := lgA 5 s.acc (bitV inp s ⟨op, k, n, t⟩) } w) := by
  have P := Lib.hid h
  have CR := Lib.hid (fun (w' : World) (k' : Nx w w') => vmRead_any base b sb o ge nt code inp s k n w' (h.nx k'))
  have NX := Lib.hid (Nx.one w (.cells #[.int .i64 op, .int .i64 k, .int .i64 n, .int .i64 t] 28))
  have HX := bx_new w 28 [.int .i64 op, .int .i64 k, .int .i64 n, .int .i64 t]
  have x1 := HX.cell 1 rfl
  have x2 := HX.cell 2 rfl
  have hE2 : rdSE inp s.q s.m k n = 0 := hE
  obtain ⟨V, hV⟩ : ∃ V, V = rdSV inp s.q s.m k n := ⟨_, rfl⟩
  obtain ⟨a0, ha⟩ : ∃ a0, a0 = s.acc := ⟨_, rfl⟩
  unfold MdOk bitV
  rw [← hV, hE2] at CR
  simp only
  rw [← hV]
  have HA := Lib.hid ha
  clear hE2 hV ha
  clear h hE HX
  go_enter Try.func36, Try.ntmps36
  go_wp2_with fail
  refine (CR.out _ NX.out).mono ?_
  rintro e w2 ⟨rfl, hn⟩
  have N2 := Lib.hid (NX.out.trans hn)
  have P2 := Lib.hid (P.out.nx N2.out)
  have c6 : w2.cell? ⟨b, 6, none⟩ = some (.bool a0) := by rw [show a0 = s.acc from HA.out]; exact P2.out.cells.2.1
  clear hn x1 x2 NX CR P
  have SA := Lib.hid (fun (v : Bool) (hv : v = lgA 5 a0 V) => (vmSetAcc_pm base b sb o ge nt code inp s v w2 P2.out).mono (fun e w3 (hh : e = .returned (.int .i64 0) ∧ PM w3 base b sb o ge nt code inp { s with acc := v } ∧ Mp b sb o ge w2 w3) => (show e = .returned (.int .i64 0) ∧ PM w3 base b sb o ge nt code inp { s with acc := lgA 5 s.acc V } ∧ Mp b sb o ge w2 w3 from by rw [← show a0 = s.acc from HA.out, ← hv]; exact hh)))
  cases a0
  all_goals
    cases V
    all_goals
      go_wp2_with fail
      refine (SA.out _ (by decide)).mono ?_
      rintro e w3 ⟨rfl, hp, hm⟩
      have P3 := Lib.hid hp
      have M3 := Lib.hid ((Mp.of_nx N2.out b sb o ge).trans hm (.inl rfl))
      clear c6 hp hm SA
      go_wp2
      go_ret
      exact ⟨rfl, o, P3.out, .inl rfl, M3.out⟩
end
section
open Go.RowKit

section
variable {w w' : World} {base b sb : Nat} {o : Option Nat} {ge : Nat} {nt : Int} {code : List In4} {inp : List Bool} {s : Mc}
theorem PM.stk (h : PM w base b sb o ge nt code inp s) : ∃ md, Stk w 82 4 base sb o 64 md (bls s.stk) := by
  obtain ⟨vc, vi, gq, gm, cq, cm, ce, mb, md, hb, h1, h2, h3, h4, _⟩ := h; exact ⟨md, h4⟩
end
theorem bls_len (xs : List Bool) : (bls xs).length = xs.length := List.length_map _
theorem bls_app (xs : List Bool) (v : Bool) : bls (xs ++ [v]) = bls xs ++ [.bool v] := by simp [bls]

set_option maxHeartbeats 1600000 in
set_option maxRecDepth 100000 in
theorem vmPush_no (base b sb : Nat) (o : Option Nat) (ge : Nat) (nt : Int) (code : List In4) (inp : List Bool) (s : Mc) (op k n t : Int) (w : World) (h : PM w base b sb o ge nt code inp s) (hl : 64 ≤ s.stk.length) :
    Calls Try.prog 39 #[.pointer (some ⟨b, 0, none⟩), .agg #[.int .i64 op, .int .i64 k, .int .i64 n, .int .i64 t]] w (MdNo 10 w) := by
  unfold MdNo
  obtain ⟨md, hS⟩ := h.stk
  have NX := Lib.hid (Nx.one w (.cells #[.int .i64 op, .int .i64 k, .int .i64 n, .int .i64 t] 28))
  have P := Lib.hid (h.nx NX.out)
  have CL := Lib.hid (fun (w' : World) (k' : Nx w w') (v : Bool) => push_full_b v base sb o 64 md (bls s.stk) w' (hS.nx k') (by rw [bls_len]; exact hl))
  clear h hS hl
  go_enter Try.func39, Try.ntmps39
  go_wp2_with fail
  generalize w.alloc (.cells #[.int .i64 op, .int .i64 k, .int .i64 n, .int .i64 t] 28) = W at *
  have c6 := P.out.cells.2.1
  have c7 := P.out.cells.2.2.1
  go_region_with (go_at_call 53; (with_reducible refine (CL.out _ (NX.out.trans ((Nx.refl W).drew)) _).mono ?_); rintro e w2 ⟨rfl, hn2⟩; have N2 := Lib.hid (NX.out.trans (((Nx.refl W).drew).trans hn2)); clear hn2)
  all_goals
    go_wp2
    go_ret
    exact ⟨rfl, N2.out⟩

set_option maxHeartbeats 1600000 in
set_option maxRecDepth 100000 in
theorem vmPush_ok (base b sb : Nat) (o : Option Nat) (ge : Nat) (nt : Int) (code : List In4) (inp : List Bool) (s : Mc) (op k n t : Int) (w : World) (h : PM w base b sb o ge nt code inp s) (hl : s.stk.length < 64) :
    Calls Try.prog 39 #[.pointer (some ⟨b, 0, none⟩), .agg #[.int .i64 op, .int .i64 k, .int .i64 n, .int .i64 t]] w (MdOk base b sb o ge nt code inp { s with stk := s.stk ++ [s.acc] } w) := by
  unfold MdOk
  obtain ⟨md, hS⟩ := h.stk
  have NX := Lib.hid (Nx.one w (.cells #[.int .i64 op, .int .i64 k, .int .i64 n, .int .i64 t] 28))
  have P := Lib.hid (h.nx NX.out)
  have CL := Lib.hid (fun (w' : World) (k' : Nx w w') => (push_ok_b s.acc base sb o 64 md (bls s.stk) w' (hS.nx k') (by rw [bls_len]; exact hl) (by decide)).mono (fun e w2 (hh : PushPost 82 4 base sb o 64 _ _ w' e w2) =>
    (show e = .returned (.int .i64 0) ∧ ∃ o', PM w2 base b sb o' ge nt code inp { s with stk := s.stk ++ [s.acc] } ∧ (o' = o ∨ ∀ j, o' = some j → w.heap.size ≤ j) ∧ Mp b sb o ge w w2 from by
      obtain ⟨rfl, o', hS', ho', hm⟩ := hh
      refine ⟨rfl, o', (h.nx k').stk' (by rw [bls_app]; exact hS') ho' hm, ?_, (Mp.of_nx k' b sb o ge).trans (Mp.of_stk hm b ge) (.inl rfl)⟩
      rcases ho' with e | e
      · exact .inl e
      · exact .inr fun j hj => Nat.le_trans k'.size (e j hj))))
  clear h hS hl
  obtain ⟨sN, hsN⟩ : ∃ sN, sN = ({ s with stk := s.stk ++ [s.acc] } : Mc) := ⟨_, rfl⟩
  rw [← hsN] at CL ⊢
  clear hsN
  go_enter Try.func39, Try.ntmps39
  go_wp2_with fail
  generalize w.alloc (.cells #[.int .i64 op, .int .i64 k, .int .i64 n, .int .i64 t] 28) = W at *
  have c6 := P.out.cells.2.1
  have c7 := P.out.cells.2.2.1
  go_region_with (go_at_call 53; (with_reducible refine (CL.out _ (NX.out.trans ((Nx.refl W).drew))).mono ?_); rintro e w2 ⟨rfl, ho2⟩; have H2 := Lib.hid ho2; clear ho2)
  all_goals
    go_wp2
    go_ret
    exact ⟨rfl, H2.out⟩

set_option maxHeartbeats 1600000 in
set_option maxRecDepth 100000 in
theorem vmPop9_no (base b sb : Nat) (o : Option Nat) (ge : Nat) (nt : Int) (code : List In4) (inp : List Bool) (s : Mc) (op k n t : Int) (w : World) (h : PM w base b sb o ge nt code inp s) (hl : s.stk.length = 0) :
    Calls Try.prog 40 #[.pointer (some ⟨b, 0, none⟩), .agg #[.int .i64 op, .int .i64 k, .int .i64 n, .int .i64 t]] w (MdNo 18 w) := by
  unfold MdNo
  obtain ⟨md, hS⟩ := h.stk
  rw [show bls s.stk = [] by rw [List.eq_nil_of_length_eq_zero hl]; rfl] at hS
  have NX := Lib.hid (Nx.one w (.cells #[.int .i64 op, .int .i64 k, .int .i64 n, .int .i64 t] 28))
  have P := Lib.hid (h.nx NX.out)
  have CL := Lib.hid (fun (w' : World) (k' : Nx w w') => pop_none_b base sb o 64 md w' (hS.nx k'))
  have q7 := P.out.cells.2.2.1
  obtain ⟨a0, ha⟩ : ∃ a0, a0 = s.acc := ⟨_, rfl⟩
  have q6 := P.out.cells.2.1
  rw [← ha] at q6
  clear h hS hl ha
  go_enter Try.func40, Try.ntmps40
  go_wp2_with fail
  refine (CL.out _ NX.out).mono ?_
  rintro e w2 ⟨rfl, rfl⟩
  cases a0
  all_goals
    go_wp2_with fail
    refine (vmSetAcc_no b _ 18 (by decide) _).mono ?_
    rintro e w3 ⟨rfl, rfl⟩
    clear q6 q7
    go_wp2
    go_ret
    exact ⟨rfl, NX.out⟩

set_option maxHeartbeats 1600000 in
set_option maxRecDepth 100000 in
theorem vmPop9_ok (base b sb : Nat) (o : Option Nat) (ge : Nat) (nt : Int) (code : List In4) (inp : List Bool) (s : Mc) (op k n t : Int) (xs : List Bool) (v : Bool) (hs : s.stk = xs ++ [v]) (hl : xs.length ≤ 4096) (w : World) (h : PM w base b sb o ge nt code inp s) :
    Calls Try.prog 40 #[.pointer (some ⟨b, 0, none⟩), .agg #[.int .i64 op, .int .i64 k, .int .i64 n, .int .i64 t]] w (MdOk base b sb o ge nt code inp { s with stk := xs, acc := (v && s.acc) } w) := by
  unfold MdOk
  obtain ⟨md, hS⟩ := h.stk
  rw [hs, bls_app] at hS
  have NX := Lib.hid (Nx.one w (.cells #[.int .i64 op, .int .i64 k, .int .i64 n, .int .i64 t] 28))
  have P := Lib.hid (h.nx NX.out)
  have CL := Lib.hid (fun (w' : World) (k' : Nx w w') => (pop_ok_b base sb o 64 md (bls xs) (.bool v) w' (hS.nx k') (by rw [bls_len]; exact hl)).mono (fun e w2 (hh : PopPost 82 4 base sb o 64 _ _ _ w' e w2) =>
    (show e = .returned (.tuple #[.bool v, .int .i64 0]) ∧ PM w2 base b sb o ge nt code inp { s with stk := xs } ∧ Mp b sb o ge w w2 from by
      obtain ⟨rfl, hS', hm⟩ := hh
      exact ⟨rfl, (h.nx k').stk' hS' (.inl rfl) hm, (Mp.of_nx k' b sb o ge).trans (Mp.of_stk hm b ge) (.inl rfl)⟩)))
  have q7 := P.out.cells.2.2.1
  obtain ⟨a0, ha⟩ : ∃ a0, a0 = s.acc := ⟨_, rfl⟩
  have HA := Lib.hid ha
  clear h hS hl ha hs
  go_enter Try.func40, Try.ntmps40
  go_wp2_with fail
  refine (CL.out _ NX.out).mono ?_
  rintro e w2 ⟨rfl, hp, hm⟩
  have P2 := Lib.hid hp
  have M2 := Lib.hid hm
  have q6 : w2.cell? ⟨b, 6, none⟩ = some (.bool a0) := by rw [show a0 = s.acc from HA.out]; exact hp.cells.2.1
  have SA := Lib.hid (fun (u : Bool) (hu : u = (v && a0)) => (vmSetAcc_pm base b sb o ge nt code inp { s with stk := xs } u w2 hp).mono (fun e w3 (hh : e = .returned (.int .i64 0) ∧ PM w3 base b sb o ge nt code inp { s with stk := xs, acc := u } ∧ Mp b sb o ge w2 w3) => (show e = .returned (.int .i64 0) ∧ PM w3 base b sb o ge nt code inp { s with stk := xs, acc := (v && s.acc) } ∧ Mp b sb o ge w2 w3 from by rw [← show a0 = s.acc from HA.out, ← hu]; exact hh)))
  clear hp hm q7 CL P NX
  cases a0
  all_goals
    cases v
    all_goals
      go_wp2_with fail
      refine (SA.out _ (by decide)).mono ?_
      rintro e w3 ⟨rfl, hp, hm⟩
      have P3 := Lib.hid hp
      have M3 := Lib.hid (M2.out.trans hm (.inl rfl))
      clear q6 hp hm SA
      go_wp2
      go_ret
      exact ⟨rfl, o, P3.out, .inl rfl, M3.out⟩

set_option maxHeartbeats 1600000 in
set_option maxRecDepth 100000 in
theorem vmPop10_no (base b sb : Nat) (o : Option Nat) (ge : Nat) (nt : Int) (code : List In4) (inp : List Bool) (s : Mc) (op k n t : Int) (w : World) (h : PM w base b sb o ge nt code inp s) (hl : s.stk.length = 0) :
    Calls Try.prog 41 #[.pointer (some ⟨b, 0, none⟩), .agg #[.int .i64 op, .int .i64 k, .int .i64 n, .int .i64 t]] w (MdNo 18 w) := by
  unfold MdNo
  obtain ⟨md, hS⟩ := h.stk
  rw [show bls s.stk = [] by rw [List.eq_nil_of_length_eq_zero hl]; rfl] at hS
  have NX := Lib.hid (Nx.one w (.cells #[.int .i64 op, .int .i64 k, .int .i64 n, .int .i64 t] 28))
  have P := Lib.hid (h.nx NX.out)
  have CL := Lib.hid (fun (w' : World) (k' : Nx w w') => pop_none_b base sb o 64 md w' (hS.nx k'))
  have q7 := P.out.cells.2.2.1
  obtain ⟨a0, ha⟩ : ∃ a0, a0 = s.acc := ⟨_, rfl⟩
  have q6 := P.out.cells.2.1
  rw [← ha] at q6
  clear h hS hl ha
  go_enter Try.func41, Try.ntmps41
  go_wp2_with fail
  refine (CL.out _ NX.out).mono ?_
  rintro e w2 ⟨rfl, rfl⟩
  cases a0
  all_goals
    go_wp2_with fail
    refine (vmSetAcc_no b _ 18 (by decide) _).mono ?_
    rintro e w3 ⟨rfl, rfl⟩
    clear q6 q7
    go_wp2
    go_ret
    exact ⟨rfl, NX.out⟩

set_option maxHeartbeats 1600000 in
set_option maxRecDepth 100000 in
theorem vmPop10_ok (base b sb : Nat) (o : Option Nat) (ge : Nat) (nt : Int) (code : List In4) (inp : List Bool) (s : Mc) (op k n t : Int) (xs : List Bool) (v : Bool) (hs : s.stk = xs ++ [v]) (hl : xs.length ≤ 4096) (w : World) (h : PM w base b sb o ge nt code inp s) :
    Calls Try.prog 41 #[.pointer (some ⟨b, 0, none⟩), .agg #[.int .i64 op, .int .i64 k, .int .i64 n, .int .i64 t]] w (MdOk base b sb o ge nt code inp { s with stk := xs, acc := (v || s.acc) } w) := by
  unfold MdOk
  obtain ⟨md, hS⟩ := h.stk
  rw [hs, bls_app] at hS
  have NX := Lib.hid (Nx.one w (.cells #[.int .i64 op, .int .i64 k, .int .i64 n, .int .i64 t] 28))
  have P := Lib.hid (h.nx NX.out)
  have CL := Lib.hid (fun (w' : World) (k' : Nx w w') => (pop_ok_b base sb o 64 md (bls xs) (.bool v) w' (hS.nx k') (by rw [bls_len]; exact hl)).mono (fun e w2 (hh : PopPost 82 4 base sb o 64 _ _ _ w' e w2) =>
    (show e = .returned (.tuple #[.bool v, .int .i64 0]) ∧ PM w2 base b sb o ge nt code inp { s with stk := xs } ∧ Mp b sb o ge w w2 from by
      obtain ⟨rfl, hS', hm⟩ := hh
      exact ⟨rfl, (h.nx k').stk' hS' (.inl rfl) hm, (Mp.of_nx k' b sb o ge).trans (Mp.of_stk hm b ge) (.inl rfl)⟩)))
  have q7 := P.out.cells.2.2.1
  obtain ⟨a0, ha⟩ : ∃ a0, a0 = s.acc := ⟨_, rfl⟩
  have HA := Lib.hid ha
  clear h hS hl ha hs
  go_enter Try.func41, Try.ntmps41
  go_wp2_with fail
  refine (CL.out _ NX.out).mono ?_
  rintro e w2 ⟨rfl, hp, hm⟩
  have P2 := Lib.hid hp
  have M2 := Lib.hid hm
  have q6 : w2.cell? ⟨b, 6, none⟩ = some (.bool a0) := by rw [show a0 = s.acc from HA.out]; exact hp.cells.2.1
  have SA := Lib.hid (fun (u : Bool) (hu : u = (v || a0)) => (vmSetAcc_pm base b sb o ge nt code inp { s with stk := xs } u w2 hp).mono (fun e w3 (hh : e = .returned (.int .i64 0) ∧ PM w3 base b sb o ge nt code inp { s with stk := xs, acc := u } ∧ Mp b sb o ge w2 w3) => (show e = .returned (.int .i64 0) ∧ PM w3 base b sb o ge nt code inp { s with stk := xs, acc := (v || s.acc) } ∧ Mp b sb o ge w2 w3 from by rw [← show a0 = s.acc from HA.out, ← hu]; exact hh)))
  clear hp hm q7 CL P NX
  cases a0
  all_goals
    cases v
    all_goals
      go_wp2_with fail
      refine (SA.out _ (by decide)).mono ?_
      rintro e w3 ⟨rfl, hp, hm⟩
      have P3 := Lib.hid hp
      have M3 := Lib.hid (M2.out.trans hm (.inl rfl))
      clear q6 hp hm SA
      go_wp2
      go_ret
      exact ⟨rfl, o, P3.out, .inl rfl, M3.out⟩
end
end Go.Proofs.Ytdpccnpaajhliaa
