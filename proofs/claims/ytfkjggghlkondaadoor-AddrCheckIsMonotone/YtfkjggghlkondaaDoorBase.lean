/- What the given rows' list of package-level variables gives the walks: the table of letters and the table of powers of ten. No condition. -/
import Derived.Test.YtfkjggghlkondaaDoorRows
import Derived.Test.YtfkjggghlkondaaDoorCards
import Derived.Test.YtfkjggghlkondaaDoorTie
import Derived.Test.YtfkjggghlkondaaDoorK
import Derived.WalkKit
import Derived.ProofKit
import Derived.OpenShut
import Derived.LaidHandle
import Derived.Lib.LaidTab
import Derived.Stop.LaidErr
import Derived.MakeChecks
import Derived.LaidOnce
import Derived.Below
import Derived.ChangeOld
import Derived.LaidMore
namespace Go.Proofs.YtfkjggghlkondaaDoor
open Go.ChangeShapes Go.WideShapes Go.ChangeAt Go.RowKit

theorem own : ownKnob Tryd.prog.godebug = none := by kernel_rfl
theorem laidOut : laidOutB Tryd.prog = true := by kernel_rfl
/-- The list that every row of this seat bears. -/
abbrev lst : List (String × DataW Unit) := [("math/bits.deBruijn32tab", Rows.laid_math_bits_deBruijn32tab), ("math/bits.deBruijn64tab", Rows.laid_math_bits_deBruijn64tab), ("internal/strconv.uint64pow10", Rows.laid_internal_strconv_uint64pow10), ("busbar/addr.letters", Rows.laid_busbar_addr_letters)]

theorem gPow : Tryd.prog.globalNamed "internal/strconv.uint64pow10" = some 1 := by kernel_rfl
theorem gPowType : (Tryd.prog.globals[1]?).map (·.type) = some 67 := by kernel_rfl
theorem gLet : Tryd.prog.globalNamed "busbar/addr.letters" = some 0 := by kernel_rfl
theorem gLetType : (Tryd.prog.globals[0]?).map (·.type) = some 53 := by kernel_rfl
theorem powD : (Rows.laid_internal_strconv_uint64pow10 : DataW Unit) = Lib.tabData .u64 Lib.pow10Tab := by kernel_rfl
theorem cells67 : Tryd.prog.cellsOf 67 = 20 := by kernel_rfl
theorem cells53 : Tryd.prog.cellsOf 53 = 3 := by kernel_rfl
theorem cells9 : Tryd.prog.cellsOf 9 = 1 := by kernel_rfl
theorem cells23 : Tryd.prog.cellsOf 23 = 2 := by kernel_rfl

theorem pow_of {W : World} (h : laidMet Tryd.prog lst W) : Lib.TabIs Tryd.prog W "internal/strconv.uint64pow10" .u64 Lib.pow10Tab := by
  have h2 := h.tail.tail
  rw [powD] at h2
  exact Lib.tabIs_of_head gPow gPowType Tryd.underlying67 (by kernel_rfl) (by kernel_rfl) cells67 h2

theorem str_of {H : Type} {enc : TypeId × Value → H} {w : World} {base : Nat} {sp : Nat → Bool} {held : Bool} {fuel : Nat} {v : Value} {l : List UInt8} {x : DataW H × List MemPlace}
    (h : DataW.trod enc Tryd.prog w base sp held fuel 9 [v] = some x) (hx : x.1 = .lit (.string l)) : v = .string ⟨l.toArray⟩ := by
  obtain ⟨s, e1, e2, _⟩ := DataW.trod_string Tryd.underlying9 h
  rw [e2] at hx
  simp only [DataW.lit.injEq, Lit.string.injEq] at hx
  simp only [List.cons.injEq, and_true] at e1
  rw [e1, ← hx]
theorem three {α : Type} {l : List α} (h : l.length = 3) : ∃ a b c, l = [a, b, c] := by
  match l, h with
  | [a, b, c], _ => exact ⟨a, b, c, rfl⟩

/-- FROM THE ROW's LIST TO THE WALKS' FACTS. -/
theorem env_of {W : World} (h0 : laidMetH Tryd.prog lst W) : Env W := by
  rw [MakeChecks.laidMetH_plain _ _ _ (by kernel_rfl)] at h0
  have hp := pow_of h0
  obtain ⟨ps, ⟨g', t', cs, fuel, p, q, hg', ht', hvar, hd, _, _⟩, _⟩ := h0.tail.tail.tail
  obtain rfl := Option.some.inj (gLet.symm.trans hg')
  obtain rfl := Option.some.inj (gLetType.symm.trans ht')
  obtain ⟨xs, m1, rfl, hx1, hlen, hn3, hel⟩ := DataW.trod_array Tryd.underlying53 hd
  rw [cells53] at hlen
  rw [cells9] at hel
  obtain ⟨a, b, c, hcs⟩ := three hlen
  obtain ⟨x0, x1, x2, rfl⟩ := three hn3
  rw [hcs] at hel
  simp only [Prod.mk.injEq] at hx1
  have hL : [x0.1, x1.1, x2.1] = [.lit (.string [73]), .lit (.string [81]), .lit (.string [77])] := by
    have := hx1.1
    simpa [Rows.laid_busbar_addr_letters] using this.symm
  simp only [List.cons.injEq, and_true] at hL
  have r0 := str_of (hel 0 (by decide)) hL.1
  have r1 := str_of (hel 1 (by decide)) hL.2.1
  have r2 := str_of (hel 2 (by decide)) hL.2.2
  have harr : cs = #[a, b, c] := by rw [← Array.toArray_toList (xs := cs), hcs]
  have v0 := World.var?_cell gLet hvar 0
  have v1 := World.var?_cell gLet hvar 1
  have v2 := World.var?_cell gLet hvar 2
  rw [harr] at v0 v1 v2
  exact ⟨v0.trans (congrArg some r0), v1.trans (congrArg some r1), v2.trans (congrArg some r2), hp⟩

/-- The door's own heap meets the list. -/
theorem door_met (os : Os) (args : Array Value) : laidMetH Tryd.prog lst ((World.doorLaid Tryd.prog 29 os).forCall (fun _ _ => 0) ⟨#[], args, []⟩).memory :=
  laidMetH_of_parts3 (fuel := 8) (laidMet_of_run' 8 (by kernel_rfl) (by kernel_rfl)) (by kernel_rfl) (by kernel_rfl)

/-- An array of three integers by value, opened. -/
theorem arr3_open {P : Program} {H : Type} {enc : TypeId × Value → H} {W : World} {r : Reach} {base b0 : Nat} {sp : Nat → Bool} {held : Bool} {T E : TypeId} {k : IntKind} {v : Value} {d : DataW H} {p : List MemPlace}
    (ht : P.underlying T = some (.array 3 E)) (hc : P.cellsOf T = 3) (he : P.underlying E = some (.int k)) (hce : P.cellsOf E = 1)
    (hv : Value.okWide P W r base T v) (h : DataW.Trod enc P W b0 sp held T v d p) :
    ∃ a b c, v = .agg #[.int k a, .int k b, .int k c] ∧ (Lit.int k a).wf = true ∧ (Lit.int k b).wf = true ∧ (Lit.int k c).wf = true := by
  simp only [Value.okWide, ht] at hv
  obtain ⟨cs, rfl, hsz, _⟩ := hv
  obtain ⟨fuel, hf⟩ := h
  obtain ⟨xs, m1, rfl, hx1, hlen, hn3, hel⟩ := DataW.trod_array ht hf
  rw [hce] at hel
  have hl3 : cs.toList.length = 3 := by simpa [hc] using hsz
  obtain ⟨a, b, c, hcs⟩ := three hl3
  obtain ⟨x0, x1, x2, rfl⟩ := three hn3
  have harr : cs = #[a, b, c] := by rw [← Array.toArray_toList (xs := cs), hcs]
  subst harr
  obtain ⟨n0, e0, _, w0⟩ := DataW.trod_int he (hel 0 (by decide))
  obtain ⟨n1, e1, _, w1⟩ := DataW.trod_int he (hel 1 (by decide))
  obtain ⟨n2, e2, _, w2⟩ := DataW.trod_int he (hel 2 (by decide))
  simp [Value.cells] at e0 e1 e2
  subst e0 e1 e2
  exact ⟨n0, n1, n2, rfl, w0, w1, w2⟩
end Go.Proofs.YtfkjggghlkondaaDoor
