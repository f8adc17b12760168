/- What the parsers of the operands do. Conditions: a text of at most 100000 bytes; the listed package-level variables hold what the program's text lays. -/
import Derived.Test.YtfnmjbapjngmaaaDoorIQ9
import Derived.Test.YtfnmjbapjngmaaaDoorIQ8
namespace Go.Proofs.YtfnmjbapjngmaaaDoor
open Go.RowKit

/-- One block has turned, from one list of cells to another; new blocks and draws besides. -/
def Put (w w' : World) (x : Nat) (T : TypeId) (vs : List Value) : Prop :=
  Bx w' x T vs ∧ (∀ g U us, g ≠ x → Bx w g U us → Bx w' g U us) ∧ ∀ w0, Nx w0 w → w0.heap.size ≤ x → Nx w0 w'
theorem Put.of {w w1 : World} {x : Nat} {T : TypeId} {vs : List Value} (h : Nx w w1) (b : Bx w1 x T vs) : Put w w1 x T vs :=
  ⟨b, fun _ _ _ _ hb => hb.nx h, fun _ k _ => k.trans h⟩
theorem Put.put {w w1 : World} {x i : Nat} {T : TypeId} {vs : List Value} (h : Put w w1 x T vs) (v : Value) : Put w (w1.setCell ⟨x, i, none⟩ v) x T (vs.set i v) :=
  ⟨h.1.put i v, fun g U us hg hb => (h.2.1 g U us hg hb).far hg v, fun w0 k hk => (h.2.2 w0 k hk).set hk v⟩
theorem ok100 {s : ByteArray} (h : s.size ≤ 100000) : s.size ≤ maxLen := Nat.le_trans h (by unfold maxLen; omega)

set_option maxHeartbeats 800000 in
set_option maxRecDepth 100000 in
theorem addrSet_any (s : ByteArray) (hs : s.size ≤ 100000) (x : Nat) (o k n N : Int) (w : World) (he : Ev w) (hx : Bx w x 35 [.int .i64 o, .int .i64 k, .int .i64 n, .int .i64 N]) :
    Calls Tryd.prog 47 #[.pointer (some ⟨x, 0, none⟩), .string s] w fun e w' => e = .returned (.bool (decide ((parL (B s)).2.2 = 0))) ∧ Put w w' x 35 [.int .i64 o, .int .i64 (parL (B s)).1, .int .i64 (parL (B s)).2.1, .int .i64 N] := by
  have HP := Lib.hid (aParse_any s (ok100 hs) w he.e)
  clear he
  have HX := Lib.hid hx
  clear hx hs
  generalize (parL (B s)).1 = k' at *
  generalize (parL (B s)).2.1 = n' at *
  generalize (parL (B s)).2.2 = c at *
  go_enter Tryd.func47, Tryd.ntmps47
  go_wp2_with fail
  refine HP.out.mono ?_
  rintro e w1 ⟨rfl, q1⟩
  have H1 := Lib.hid (q1.trans (Nx.one w1 (.cells #[.int .i64 k', .int .i64 n'] 33)))
  have XV := Lib.hid ((HX.out.nx q1).nx (Nx.one w1 (.cells #[.int .i64 k', .int .i64 n'] 33)))
  have c1 := XV.out.cell 1 rfl
  have c2 := XV.out.cell 2 rfl
  have f1 := XV.out.frozen 1
  have f2 := XV.out.frozen 2
  have hne : x ≠ w1.heap.size := by have := (HX.out.nx q1).lt; omega
  clear q1
  by_cases hc : c = 0
  · subst hc
    go_wp2
    go_ret
    exact ⟨rfl, ((Put.of H1.out XV.out).put (i := 1) _).put (i := 2) _⟩
  · have t : (c == 0) = false := by simpa using hc
    have HC := Lib.hid (show decide (c = 0) = false from decide_eq_false hc)
    clear hc
    go_wp2
    go_ret
    exact ⟨by rw [HC.out]; rfl, ((Put.of H1.out XV.out).put (i := 1) _).put (i := 2) _⟩

set_option maxHeartbeats 800000 in
set_option maxRecDepth 100000 in
theorem numSet_any (s : ByteArray) (hs : s.size ≤ 100000) (x : Nat) (o k n N : Int) (w : World) (he : Ev w) (hx : Bx w x 35 [.int .i64 o, .int .i64 k, .int .i64 n, .int .i64 N]) :
    Calls Tryd.prog 53 #[.pointer (some ⟨x, 0, none⟩), .string s] w fun e w' => e = .returned (.bool (dnum (B s)).2) ∧ Put w w' x 35 [.int .i64 o, .int .i64 k, .int .i64 n, .int .i64 (dnum (B s)).1] := by
  have HP := Lib.hid (parseNum_any s hs w he)
  clear he
  have HX := Lib.hid hx
  clear hx hs
  generalize (dnum (B s)).1 = N' at *
  generalize (dnum (B s)).2 = b at *
  go_enter Tryd.func53, Tryd.ntmps53
  go_wp2_with fail
  refine HP.out.mono ?_
  rintro e w1 ⟨rfl, q1⟩
  have H1 := Lib.hid q1
  have XV := Lib.hid (HX.out.nx q1)
  have c3 := XV.out.cell 3 rfl
  have f3 := XV.out.frozen 3
  clear q1
  go_wp2
  go_ret
  exact ⟨rfl, (Put.of H1.out XV.out).put (i := 3) _⟩
end Go.Proofs.YtfnmjbapjngmaaaDoor
