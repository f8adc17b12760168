/- What the decoder's reading method returns. Condition: a reader over bytes that read as a list. -/
import Derived.Test.YtdiamajkfbejhaaDoorIT4
import Derived.Test.YtdiamajkfbejhaaDoorIS0
import Derived.BigQuiet
namespace Go.Proofs.YtdiamajkfbejhaaDoor
open Go.RowKit

/-- A reader in block b: the bytes, and the next byte. -/
def Rdr (w : World) (b : Nat) (A : Option Addr) (n c : Nat) (a : Nat) : Prop := Bx w b 81 [.slice A n c, .int .i64 (a : Int)]
/-- Only block b may have turned, of what was there. -/
def Mb (b : Nat) (w w' : World) : Prop := w.grownBy w' (some b)
theorem Mb.refl (b : Nat) (w : World) : Mb b w w := ⟨rfl, rfl, rfl, Nat.le_refl _, fun _ _ _ => rfl⟩
theorem Mb.trans {b : Nat} {x y z : World} (h : Mb b x y) (k : Mb b y z) : Mb b x z := ⟨k.os.trans h.os, k.tape.trans h.tape, k.output.trans h.output, Nat.le_trans h.size k.size, fun i hi hne => (k.block i (Nat.lt_of_lt_of_le hi h.size) hne).trans (h.block i hi hne)⟩
theorem Mb.nx {b : Nat} {x y : World} (h : Nx x y) : Mb b x y := ⟨h.os, h.tape, h.output, h.size, fun i hi _ => h.block i hi⟩
theorem Mb.set {b i : Nat} {o : Option Nat} {x y : World} (h : Mb b x y) (v : Value) : Mb b x (y.setCell ⟨b, i, o⟩ v) :=
  h.trans ⟨rfl, rfl, rfl, by simp [World.setCell], fun k _ hne => Below.heap_setCell _ _ _ _ (fun e => hne (by rw [e]))⟩
theorem Mb.below {b B : Nat} {x y : World} (h : Mb b x y) (hb : B ≤ b) (hx : B ≤ x.heap.size) : Below B x y := ⟨h.os, h.tape, h.output, h.size, fun k hk => h.block k (by omega) (fun e => by cases e; omega)⟩
theorem Bx.mb {b g : Nat} {x y : World} {T : TypeId} {vs : List Value} (h : Bx x g T vs) (k : Mb b x y) (hne : g ≠ b) : Bx y g T vs := (k.block g h.lt (fun e => hne (Option.some.inj e))).trans h
/-- n bytes from byte a on, as a slice of the bytes. -/
def Cut (A : Option Addr) (n a k : Nat) (v : Value) : Prop := ∃ A' c', v = .slice A' k c' ∧ k ≤ c' ∧ (∀ w bs, RdY w A bs → bs.length = n → RdY w A' ((bs.drop a).take k))
theorem cut_rd {w : World} {ad : Addr} {bs : List UInt8} {a k : Nat} (h : RdY w (some ad) bs) : RdY w (some (ad.add a)) ((bs.drop a).take k) := fun j b hj => by
  rw [List.getElem?_take] at hj
  split at hj
  · rw [List.getElem?_drop] at hj
    obtain ⟨ad', e, hc⟩ := h (a + j) b hj
    obtain rfl := Option.some.inj e
    exact ⟨_, rfl, by rw [Addr.add_add]; exact hc⟩
  · cases hj
set_option maxHeartbeats 1600000 in
set_option maxRecDepth 100000 in
theorem next_any (b : Nat) (A : Option Addr) (n c a k : Nat) (ha : a ≤ n) (hk : k ≤ 1000000) (hl : n ≤ c) (hc : c ≤ maxLen) (hA : A = none → c = 0) (w : World) (hx : Rdr w b A n c a) :
    Calls Tryd.prog 43 #[.pointer (some ⟨b, 0, none⟩), .int .i64 k] w fun r w' => Mb b w w' ∧
      ((a + k ≤ n ∧ ∃ v, r = .returned (.tuple #[v, .bool true]) ∧ Cut A n a k v ∧ Rdr w' b A n c (a + k)) ∨
       (¬ a + k ≤ n ∧ r = .returned (.tuple #[.slice none 0 0, .bool false]) ∧ Rdr w' b A n c a)) := by
  unfold maxLen at hc
  unfold Rdr at hx
  have c0 := hx.cell 0 rfl
  have c1 := hx.cell 1 rfl
  have f1 := hx.frozen 1
  have HX := Lib.hid hx
  clear hx
  go_enter Tryd.func43, Tryd.ntmps43
  by_cases h : a + k ≤ n
  rotate_left
  · have h1 : (n : Int) - (a : Int) < (k : Int) := by omega
    go_wp2_with fail
    go_quiet (fail)
    go_wp2_with fail
    go_ret2
    refine ⟨Mb.nx ((Nx.refl w).drewN nq), .inr ⟨h, rfl, ?_⟩⟩
    exact HX.out.nx ((Nx.refl w).drewN nq)
  have h1 : ¬ (n : Int) - (a : Int) < (k : Int) := by omega
  go_wp2_with fail
  go_quiet (fail)
  have W1 := Lib.hid ((Nx.refl w).drewN nq)
  have d0 : (w.drewN nq).cell? ⟨b, 0, none⟩ = some (.slice A n c) := c0
  have d1 : (w.drewN nq).cell? ⟨b, 1, none⟩ = some (.int .i64 (a : Int)) := c1
  have g1 : (w.drewN nq).frozen? ⟨b, 1, none⟩ = false := f1
  have HX1 := Lib.hid (HX.out.nx W1.out)
  clear c0 c1 f1
  generalize w.drewN nq = w1 at *
  have h2 : (a : Int) + (k : Int) ≤ (n : Int) := by omega
  have h3 : (a : Int) + (k : Int) ≤ (c : Int) := by omega
  have h4 : (a : Int) ≤ (a : Int) + (k : Int) := by omega
  have h5 : (a : Int) ≤ (c : Int) := by omega
  cases A with
  | none =>
    obtain rfl := hA rfl
    obtain rfl : n = 0 := by omega
    obtain rfl : a = 0 := by omega
    obtain rfl : k = 0 := by omega
    clear h1 h2 h3 h4 h5
    go_wp2_with fail
    go_quiet (fail)
    have e0 : (w1.drewN nq).cell? ⟨b, 1, none⟩ = some (.int .i64 0) := d1
    have e1 : (w1.drewN nq).frozen? ⟨b, 1, none⟩ = false := g1
    go_wp2_with fail
    go_ret2
    refine ⟨((Mb.nx W1.out).trans (Mb.nx (Nx.refl _))).trans (Mb.set (Mb.nx ((Nx.refl w1).drewN nq)) _), .inl ⟨h, _, rfl, ⟨none, 0, rfl, Nat.le_refl _, fun w bs _ _ => by simpa using RdY.nil _ _⟩, ?_⟩⟩
    exact (HX1.out.nx ((Nx.refl w1).drewN nq)).put 1 _
  | some ad =>
    by_cases hac : a = c
    · subst hac
      obtain rfl : k = 0 := by omega
      go_wp2_with fail
      go_quiet (fail)
      have e0 : (w1.drewN nq).cell? ⟨b, 1, none⟩ = some (.int .i64 (a : Int)) := d1
      have e1 : (w1.drewN nq).frozen? ⟨b, 1, none⟩ = false := g1
      go_wp2_with fail
      go_ret2
      refine ⟨((Mb.nx W1.out).trans (Mb.nx (Nx.refl _))).trans (Mb.set (Mb.nx ((Nx.refl w1).drewN nq)) _), .inl ⟨h, _, rfl, ⟨_, _, rfl, Nat.zero_le _, fun w bs _ _ => by simpa using RdY.nil _ _⟩, ?_⟩⟩
      exact (HX1.out.nx ((Nx.refl w1).drewN nq)).put 1 _
    · have hac' : (a : Int) < (c : Int) := by omega
      go_wp2_with fail
      go_quiet (fail)
      rw [show a + k - a = k by omega]
      have e0 : (w1.drewN nq).cell? ⟨b, 1, none⟩ = some (.int .i64 (a : Int)) := d1
      have e1 : (w1.drewN nq).frozen? ⟨b, 1, none⟩ = false := g1
      go_wp2_with fail
      go_ret2
      refine ⟨((Mb.nx W1.out).trans (Mb.nx (Nx.refl _))).trans (Mb.set (Mb.nx ((Nx.refl w1).drewN nq)) _), .inl ⟨h, _, rfl, ⟨_, _, rfl, by omega, fun w bs hr _ => cut_rd hr⟩, ?_⟩⟩
      exact (HX1.out.nx ((Nx.refl w1).drewN nq)).put 1 _
end Go.Proofs.YtdiamajkfbejhaaDoor
