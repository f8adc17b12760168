/- What the given rows' list of package-level variables gives the walks of layer 7, and the frame of a row. No condition. -/
import Derived.Test.YtdiamajkfbejhaaDoorRows
import Derived.Test.YtdiamajkfbejhaaDoorCards
import Derived.Test.YtdiamajkfbejhaaDoorTie
import Derived.Test.YtdiamajkfbejhaaDoorIBase
import Derived.Test.YtdiamajkfbejhaaDoorIY1
import Derived.WalkKit
import Derived.ProofKit
import Derived.OpenShut
import Derived.LaidHandle
import Derived.Lib.LaidTab
import Derived.Stop.LaidErr
import Derived.MakeChecks
import Derived.LaidOnce
import Derived.Below
import Derived.ChangeOld
import Derived.LaidMore
import Derived.Lay
import Derived.Shelf.Vars
import Derived.Handed
namespace Go.Proofs.YtdiamajkfbejhaaDoor
open Go.ChangeShapes Go.WideShapes Go.ChangeAt Go.RowKit

/-- The list that every row of this seat bears. -/
abbrev lst : List (String × DataW Unit) := Rows.bytecodeEncodeMatchesReferenceRow.laid

theorem gOps : Tryd.prog.globalNamed "busbar/op.opcodes" = some 0 := by kernel_rfl
theorem gOpsType : (Tryd.prog.globals[0]?).map (·.type) = some 92 := by kernel_rfl
theorem cellsOps : Tryd.prog.cellsOf 92 = 34 := by kernel_rfl
theorem cellsRow : Tryd.prog.cellsOf 91 = 2 := by kernel_rfl
theorem cells3 : Tryd.prog.cellsOf 3 = 1 := by kernel_rfl
theorem str_of {H : Type} {enc : TypeId × Value → H} {w : World} {base : Nat} {sp : Nat → Bool} {held : Bool} {fuel : Nat} {v : Value} {l : List UInt8} {x : DataW H × List MemPlace}
    (h : DataW.trod enc Tryd.prog w base sp held fuel 9 [v] = some x) (hx : x.1 = .lit (.string l)) : v = .string ⟨l.toArray⟩ := by
  obtain ⟨s, e1, e2, _⟩ := DataW.trod_string Tryd.underlying9 h
  rw [e2] at hx
  simp only [DataW.lit.injEq, Lit.string.injEq] at hx
  simp only [List.cons.injEq, and_true] at e1
  rw [e1, ← hx]
theorem int_of {H : Type} {enc : TypeId × Value → H} {w : World} {base : Nat} {sp : Nat → Bool} {held : Bool} {fuel : Nat} {v : Value} {n : Int} {x : DataW H × List MemPlace}
    (h : DataW.trod enc Tryd.prog w base sp held fuel 3 [v] = some x) (hx : x.1 = .lit (.int .i64 n)) : v = .int .i64 n := by
  obtain ⟨k, e1, e2, _⟩ := Go.DataW.trod_int Tryd.underlying3 h
  rw [e2] at hx
  simp only [DataW.lit.injEq, Lit.int.injEq, true_and] at hx
  simp only [List.cons.injEq, and_true] at e1
  rw [e1, ← hx]
set_option maxRecDepth 100000 in
/-- One row of the table of opcodes. -/
theorem row_of {H : Type} {enc : TypeId × Value → H} {w : World} {base : Nat} {sp : Nat → Bool} {held : Bool} {fuel : Nat} {cs : List Value} {l : List UInt8} {n : Int} {x : DataW H × List MemPlace}
    (h : DataW.trod enc Tryd.prog w base sp held fuel 91 cs = some x) (hx : x.1 = .agg [.lit (.string l), .lit (.int .i64 n)]) : cs = [.string ⟨l.toArray⟩, .int .i64 n] := by
  obtain ⟨y0, y1, m, rfl, hl, h0, h1⟩ := trod_struct2 Tryd.underlying91 h
  rw [cellsRow] at hl
  match cs, hl with
  | [a, b], _ =>
    simp only [DataW.agg.injEq, List.cons.injEq, and_true] at hx
    have e0 := str_of (v := a) h0 hx.1
    have e1 := int_of (v := b) h1 hx.2
    rw [e0, e1]
theorem eta7 (s : ByteArray) : (⟨s.data.toList.toArray⟩ : ByteArray) = s := by cases s; simp
theorem three {α : Type} {l : List α} (h : l.length = 3) : ∃ a b c, l = [a, b, c] := by
  match l, h with
  | [a, b, c], _ => exact ⟨a, b, c, rfl⟩
theorem two_at {α : Type} {l : List α} {n : Nat} {a b : α} (h : (l.drop n).take 2 = [a, b]) : l[n]? = some a ∧ l[n + 1]? = some b := by
  have h0 := congrArg (fun x => x[0]?) h
  have h1 := congrArg (fun x => x[1]?) h
  simp [List.getElem?_drop] at h0 h1
  exact ⟨h0, h1⟩
def aggOf {H : Type} : DataW H → List (DataW H)
  | .agg l => l
  | _ => []
def nm7 : List ByteArray := [⟨#[108, 100]⟩, ⟨#[108, 100, 110]⟩, ⟨#[97, 110, 100]⟩, ⟨#[97, 110, 100, 110]⟩, ⟨#[111, 114]⟩, ⟨#[111, 114, 110]⟩, ⟨#[114, 105, 115, 101]⟩, ⟨#[102, 97, 108, 108]⟩, ⟨#[112, 117, 115, 104]⟩, ⟨#[97, 110, 100, 112]⟩, ⟨#[111, 114, 112]⟩, ⟨#[115, 116]⟩, ⟨#[115, 116, 110]⟩, ⟨#[115, 101, 116]⟩, ⟨#[114, 115, 116]⟩, ⟨#[106, 109, 112, 99]⟩, ⟨#[101, 110, 100]⟩]
theorem tbl_name7 (k : Nat) (h : k < 17) : tbl[k * 2]? = some (.string (nm7.getD k ⟨#[]⟩)) := by
  rcases seventeen h with rfl|rfl|rfl|rfl|rfl|rfl|rfl|rfl|rfl|rfl|rfl|rfl|rfl|rfl|rfl|rfl|rfl <;> rfl
theorem opsD (k : Nat) (h : k < 17) : (aggOf (Rows.laid_busbar_op_opcodes : DataW Unit))[k]? = some (.agg [.lit (.string ((nm7.getD k ⟨#[]⟩).data.toList)), .lit (.int .i64 (frm (k : Int)))]) := by
  rcases seventeen h with rfl|rfl|rfl|rfl|rfl|rfl|rfl|rfl|rfl|rfl|rfl|rfl|rfl|rfl|rfl|rfl|rfl <;> kernel_rfl

theorem tab_of {W : World} (h0 : laidMet Tryd.prog lst W) : ∀ (i : Nat) (v : Value), tbl[i]? = some v → W.cell? ⟨0, i, none⟩ = some v := by
  obtain ⟨ps, ⟨g', t', cs, fuel, p, q, hg', ht', hvar, hd, _, _⟩, _⟩ := h0.tail.tail.tail.tail.tail.tail
  obtain rfl := Option.some.inj (gOps.symm.trans hg')
  obtain rfl := Option.some.inj (gOpsType.symm.trans ht')
  obtain ⟨xs, m1, rfl, hx1, hlen, hn, hel⟩ := DataW.trod_array Tryd.underlying92 hd
  rw [cellsRow] at hel
  simp only [Prod.mk.injEq] at hx1
  have hxs : aggOf (Rows.laid_busbar_op_opcodes : DataW Unit) = xs.map (·.1) := by rw [hx1.1]; rfl
  have row : ∀ k, k < 17 → cs.toList[k * 2]? = some (.string (nm7.getD k ⟨#[]⟩)) ∧ cs.toList[k * 2 + 1]? = some (.int .i64 (frm (k : Int))) := by
    intro k hk
    have hd := opsD k hk
    rw [hxs, List.getElem?_map] at hd
    cases hx : xs[k]? with
    | none => rw [hx] at hd; cases hd
    | some x =>
      rw [hx] at hd
      have hd1 : x.1 = _ := Option.some.inj hd
      have e := row_of ((hel k hk).trans hx) hd1
      rw [eta7] at e
      exact two_at e
  intro i v hv
  have hi : i < 34 := (List.getElem?_eq_some_iff.1 hv).1
  rw [World.var?_cell gOps hvar i, ← Array.getElem?_toList]
  rcases Nat.mod_two_eq_zero_or_one i with hm | hm
  · obtain ⟨k, rfl⟩ : ∃ k, i = k * 2 := ⟨i / 2, by omega⟩
    rw [(row k (by omega)).1, ← hv, tbl_name7 k (by omega)]
  · obtain ⟨k, rfl⟩ : ∃ k, i = k * 2 + 1 := ⟨i / 2, by omega⟩
    rw [(row k (by omega)).2, ← hv, tbl_form k (by omega)]

/-- FROM THE ROW's LIST TO THE WALKS' FACTS. -/
theorem ev_of {W : World} (h0 : laidMetH Tryd.prog lst W) (_ : W.ShapedOpen Tryd.prog) : Ev W := by
  rw [MakeChecks.laidMetH_plain _ _ _ (by kernel_rfl)] at h0
  exact ⟨tab_of h0⟩

/-- The plain wrap with a condition on the world, the world's shape kept. -/
theorem frame_shaped {H : Type} {enc : TypeId × Value → H} {a : Assume} {C : Checked} {os : Os} {f : FuncId} {fn : Func} {s : ChangeSpec} {conds : List PathCond} {apart fresh handsOn again : Bool} {X : World → Array Value → Prop}
    (hX : ∀ (w w' : World) (args : Array Value), w.heap = w'.heap → X w args → X w' args)
    (own : ownKnob C.prog.godebug = none) (started : os.Started) (noInit : C.prog.inits.idxOf? f = none) (hfn : C.prog.funcs[f]? = some fn)
    (witness : ∃ (w : World) (tape : Tape) (i : Input), w.os = os ∧ (w.forCall tape i).Shaped C.prog ∧ i.vars = [] ∧ Input.okWide C.prog (w.forCall tape i) .any w.heap.size f i ∧
      ((s.pre enc C.prog fn conds apart (w.forCall tape i).memory i.args ∧ X (w.forCall tape i).memory i.args) ∧ sizedMet enc C.prog fn (OpenSpec.ofChange s) apart (w.forCall tape i).memory i.args) ∧ a.holds C.prog (lone (Frame.enter C.prog f i.args .normal) [] (w.forCall tape i)))
    (contract : ∀ (W : World) (base : Nat) (args : Array Value) (ds gs : List (DataW H)) (before : List MemPlace),
      (∀ (j : Nat) t v, fn.params[j]? = some t → args[j]? = some v → Value.okWide C.prog W .any base t v) →
      DataW.Whole enc C.prog fn.params.toList s.vars apart W args.toList ds gs before →
      conds.all (PathCond.test C.prog ⟨fn.params.toList, ds, s.plain.varTypes C.prog, gs⟩) = true →
      (DataW.weightsEach C.prog (fn.params.toList ++ s.plain.varTypes C.prog) (ds ++ gs)).all (· ≤ reachBytes) = true → X W args →
      W.ShapedOpen C.prog →
      a.holds C.prog (lone (Frame.enter C.prog f args .normal) [] W) →
      Calls C.prog f args W fun e W' => ∃ v, e = .returned v ∧ s.post enc C.prog fn apart fresh handsOn again W args v W') :
    ReturnsInHanded a C os f .any (fun w args => (s.pre enc C.prog fn conds apart w args ∧ X w args) ∧ sizedMet enc C.prog fn (OpenSpec.ofChange s) apart w args) (s.post enc C.prog fn apart fresh handsOn again) := by
  refine returnsInHanded_of_calls own started noInit witness ?_
  intro w tape i _ hsh _ hok hpre hholds
  obtain ⟨_, _, _, fn', hfn', _, _, _, _, hval⟩ := hok
  have e : fn' = fn := Option.some.inj (hfn'.symm.trans hfn)
  subst e
  obtain ⟨⟨⟨ds, gs, before, hw, hc⟩, hx⟩, hz⟩ := hpre
  have hw' := DataW.Whole.of_heap (w' := w.forCall tape i) (by rfl) hw
  refine (contract (w.forCall tape i) w.heap.size i.args ds gs before hval hw' hc (hz.weights hw) (hX _ _ _ (by rfl) hx) hsh hholds).mono fun e W' ⟨v, he, hp⟩ => ?_
  subst he
  exact ChangeSpec.post_blind hp
/-- A world that meets the list. -/
theorem door_met (os : Os) (args : Array Value) : laidMetH Tryd.prog lst (((World.laidAll Tryd.prog os lst).forCall (fun _ _ => 0) ⟨#[], args, []⟩).memory) := by
  rw [MakeChecks.laidMetH_plain _ _ _ (by kernel_rfl)]
  exact laidMet_laidAll _ (by kernel_rfl) (by kernel_rfl)
theorem door_shaped (os : Os) : (World.laidAll Tryd.prog os lst).Shaped Tryd.prog := World.shaped_of_ZipB (by kernel_rfl) (by kernel_rfl)
end Go.Proofs.YtdiamajkfbejhaaDoor
