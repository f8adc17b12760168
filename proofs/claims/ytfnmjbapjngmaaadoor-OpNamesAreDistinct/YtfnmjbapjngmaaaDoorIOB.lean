/- What the given rows' list of package-level variables gives the walks of layer 4, and the frame of a row. No condition. -/
import Derived.Test.YtfnmjbapjngmaaaDoorRows
import Derived.Test.YtfnmjbapjngmaaaDoorCards
import Derived.Test.YtfnmjbapjngmaaaDoorTie
import Derived.Test.YtfnmjbapjngmaaaDoorIQ1
import Derived.WalkKit
import Derived.ProofKit
import Derived.OpenShut
import Derived.LaidHandle
import Derived.Lib.LaidTab
import Derived.Stop.LaidErr
import Derived.MakeChecks
import Derived.LaidOnce
import Derived.Below
import Derived.ChangeOld
import Derived.LaidMore
import Derived.Lay
import Derived.Shelf.Vars
import Derived.Handed
namespace Go.Proofs.YtfnmjbapjngmaaaDoor
open Go.ChangeShapes Go.WideShapes Go.ChangeAt Go.RowKit

theorem own : ownKnob Tryd.prog.godebug = none := by kernel_rfl
theorem laidOut : laidOutB Tryd.prog = true := by kernel_rfl
/-- The list that every row of this seat bears. -/
abbrev lst : List (String × DataW Unit) := Rows.opTableMatchesReferenceRow.laid

theorem gPow : Tryd.prog.globalNamed "internal/strconv.uint64pow10" = some 7 := by kernel_rfl
theorem gPowType : (Tryd.prog.globals[7]?).map (·.type) = some 128 := by kernel_rfl
theorem gLet : Tryd.prog.globalNamed "busbar/addr.letters" = some 1 := by kernel_rfl
theorem gLetType : (Tryd.prog.globals[1]?).map (·.type) = some 87 := by kernel_rfl
theorem gOps : Tryd.prog.globalNamed "busbar/op.opcodes" = some 0 := by kernel_rfl
theorem gOpsType : (Tryd.prog.globals[0]?).map (·.type) = some 53 := by kernel_rfl
theorem gES : Tryd.prog.globalNamed "strconv.ErrSyntax" = some 5 := by kernel_rfl
theorem gESType : (Tryd.prog.globals[5]?).map (·.type) = some 91 := by kernel_rfl
theorem gER : Tryd.prog.globalNamed "strconv.ErrRange" = some 6 := by kernel_rfl
theorem gERType : (Tryd.prog.globals[6]?).map (·.type) = some 91 := by kernel_rfl
theorem powD : (Rows.laid_internal_strconv_uint64pow10 : DataW Unit) = Lib.tabData .u64 Lib.pow10Tab := by kernel_rfl
theorem cellsPow : Tryd.prog.cellsOf 128 = 20 := by kernel_rfl
theorem cellsLet : Tryd.prog.cellsOf 87 = 3 := by kernel_rfl
theorem cellsOps : Tryd.prog.cellsOf 53 = 34 := by kernel_rfl
theorem cellsRow : Tryd.prog.cellsOf 52 = 2 := by kernel_rfl
theorem cells9 : Tryd.prog.cellsOf 9 = 1 := by kernel_rfl
theorem cells3 : Tryd.prog.cellsOf 3 = 1 := by kernel_rfl
theorem cellsErr : Tryd.prog.cellsOf 135 = 1 := by kernel_rfl
theorem cellsAddr : Tryd.prog.cellsOf 33 = 2 := by kernel_rfl

theorem rowErr : ∀ u, Tryd.prog.typeName? 3 u = (Tryd.prog.typeName? 3 133) → u = 133 := by
  have T := fun u hu => typeName_ptr_named (P := Tryd.prog) (nm := "errors.errorString") (tp := 133) (by kernel_rfl) (by kernel_rfl) (by decide) u hu
  have e : ∀ x : String, (∀ u, Tryd.prog.typeName? 3 u = some x → u = 133) → Tryd.prog.typeName? 3 133 = some x → ∀ u, Tryd.prog.typeName? 3 u = (Tryd.prog.typeName? 3 133) → u = 133 := fun x h hx u hu => h u (hu.trans hx)
  exact e _ T (by kernel_rfl)

theorem pow_of {W : World} (h : laidMet Tryd.prog lst W) : Lib.TabIs Tryd.prog W "internal/strconv.uint64pow10" .u64 Lib.pow10Tab := by
  have h2 := h.tail.tail
  rw [powD] at h2
  exact Lib.tabIs_of_head gPow gPowType Tryd.underlying128 (by kernel_rfl) (by kernel_rfl) cellsPow h2

theorem str_of {H : Type} {enc : TypeId × Value → H} {w : World} {base : Nat} {sp : Nat → Bool} {held : Bool} {fuel : Nat} {v : Value} {l : List UInt8} {x : DataW H × List MemPlace}
    (h : DataW.trod enc Tryd.prog w base sp held fuel 9 [v] = some x) (hx : x.1 = .lit (.string l)) : v = .string ⟨l.toArray⟩ := by
  obtain ⟨s, e1, e2, _⟩ := DataW.trod_string Tryd.underlying9 h
  rw [e2] at hx
  simp only [DataW.lit.injEq, Lit.string.injEq] at hx
  simp only [List.cons.injEq, and_true] at e1
  rw [e1, ← hx]
theorem int_of {H : Type} {enc : TypeId × Value → H} {w : World} {base : Nat} {sp : Nat → Bool} {held : Bool} {fuel : Nat} {v : Value} {n : Int} {x : DataW H × List MemPlace}
    (h : DataW.trod enc Tryd.prog w base sp held fuel 3 [v] = some x) (hx : x.1 = .lit (.int .i64 n)) : v = .int .i64 n := by
  obtain ⟨k, e1, e2, _⟩ := Go.DataW.trod_int Tryd.underlying3 h
  rw [e2] at hx
  simp only [DataW.lit.injEq, Lit.int.injEq, true_and] at hx
  simp only [List.cons.injEq, and_true] at e1
  rw [e1, ← hx]
set_option maxRecDepth 100000 in
/-- One row of the table of opcodes. -/
theorem row_of {H : Type} {enc : TypeId × Value → H} {w : World} {base : Nat} {sp : Nat → Bool} {held : Bool} {fuel : Nat} {cs : List Value} {l : List UInt8} {n : Int} {x : DataW H × List MemPlace}
    (h : DataW.trod enc Tryd.prog w base sp held fuel 52 cs = some x) (hx : x.1 = .agg [.lit (.string l), .lit (.int .i64 n)]) : cs = [.string ⟨l.toArray⟩, .int .i64 n] := by
  obtain ⟨y0, y1, m, rfl, hl, h0, h1⟩ := trod_struct2 Tryd.underlying52 h
  rw [cellsRow] at hl
  match cs, hl with
  | [a, b], _ =>
    simp only [DataW.agg.injEq, List.cons.injEq, and_true] at hx
    have e0 := str_of (v := a) h0 hx.1
    have e1 := int_of (v := b) h1 hx.2
    rw [e0, e1]
theorem three {α : Type} {l : List α} (h : l.length = 3) : ∃ a b c, l = [a, b, c] := by
  match l, h with
  | [a, b, c], _ => exact ⟨a, b, c, rfl⟩
theorem two_at {α : Type} {l : List α} {n : Nat} {a b : α} (h : (l.drop n).take 2 = [a, b]) : l[n]? = some a ∧ l[n + 1]? = some b := by
  have h0 := congrArg (fun x => x[0]?) h
  have h1 := congrArg (fun x => x[1]?) h
  simp [List.getElem?_drop] at h0 h1
  exact ⟨h0, h1⟩
def aggOf {H : Type} : DataW H → List (DataW H)
  | .agg l => l
  | _ => []
theorem opsD (k : Nat) (h : k < 17) : (aggOf (Rows.laid_busbar_op_opcodes : DataW Unit))[k]? = some (.agg [.lit (.string (B (nms.getD k ⟨#[]⟩))), .lit (.int .i64 (frm (k : Int)))]) := by
  rcases seventeen h with rfl|rfl|rfl|rfl|rfl|rfl|rfl|rfl|rfl|rfl|rfl|rfl|rfl|rfl|rfl|rfl|rfl <;> kernel_rfl

theorem tab_of {W : World} (h0 : laidMet Tryd.prog lst W) : ∀ (i : Nat) (v : Value), tbl[i]? = some v → W.cell? ⟨0, i, none⟩ = some v := by
  obtain ⟨ps, ⟨g', t', cs, fuel, p, q, hg', ht', hvar, hd, _, _⟩, _⟩ := h0.tail.tail.tail.tail.tail.tail.tail
  obtain rfl := Option.some.inj (gOps.symm.trans hg')
  obtain rfl := Option.some.inj (gOpsType.symm.trans ht')
  obtain ⟨xs, m1, rfl, hx1, hlen, hn, hel⟩ := DataW.trod_array Tryd.underlying53 hd
  rw [cellsRow] at hel
  simp only [Prod.mk.injEq] at hx1
  have hxs : aggOf (Rows.laid_busbar_op_opcodes : DataW Unit) = xs.map (·.1) := by rw [hx1.1]; rfl
  have row : ∀ k, k < 17 → cs.toList[k * 2]? = some (.string (nms.getD k ⟨#[]⟩)) ∧ cs.toList[k * 2 + 1]? = some (.int .i64 (frm (k : Int))) := by
    intro k hk
    have hd := opsD k hk
    rw [hxs, List.getElem?_map] at hd
    cases hx : xs[k]? with
    | none => rw [hx] at hd; cases hd
    | some x =>
      rw [hx] at hd
      have hd1 : x.1 = _ := Option.some.inj hd
      have e := row_of ((hel k hk).trans hx) hd1
      rw [eta] at e
      exact two_at e
  intro i v hv
  have hi : i < 34 := (List.getElem?_eq_some_iff.1 hv).1
  rw [World.var?_cell gOps hvar i, ← Array.getElem?_toList]
  rcases Nat.mod_two_eq_zero_or_one i with hm | hm
  · obtain ⟨k, rfl⟩ : ∃ k, i = k * 2 := ⟨i / 2, by omega⟩
    rw [(row k (by omega)).1, ← hv, tbl_name k (by omega)]
  · obtain ⟨k, rfl⟩ : ∃ k, i = k * 2 + 1 := ⟨i / 2, by omega⟩
    rw [(row k (by omega)).2, ← hv, tbl_form k (by omega)]

theorem let_of {W : World} (h0 : laidMet Tryd.prog lst W) : Env W := by
  have hp := pow_of h0
  obtain ⟨ps, ⟨g', t', cs, fuel, p, q, hg', ht', hvar, hd, _, _⟩, _⟩ := h0.tail.tail.tail.tail.tail.tail
  obtain rfl := Option.some.inj (gLet.symm.trans hg')
  obtain rfl := Option.some.inj (gLetType.symm.trans ht')
  obtain ⟨xs, m1, rfl, hx1, hlen, hn3, hel⟩ := DataW.trod_array Tryd.underlying87 hd
  rw [cellsLet] at hlen
  rw [cells9] at hel
  obtain ⟨a, b, c, hcs⟩ := three hlen
  obtain ⟨x0, x1, x2, rfl⟩ := three hn3
  rw [hcs] at hel
  simp only [Prod.mk.injEq] at hx1
  have hL : [x0.1, x1.1, x2.1] = [.lit (.string [73]), .lit (.string [81]), .lit (.string [77])] := by
    have := hx1.1
    simpa [Rows.laid_busbar_addr_letters] using this.symm
  simp only [List.cons.injEq, and_true] at hL
  have r0 := str_of (hel 0 (by decide)) hL.1
  have r1 := str_of (hel 1 (by decide)) hL.2.1
  have r2 := str_of (hel 2 (by decide)) hL.2.2
  have harr : cs = #[a, b, c] := by rw [← Array.toArray_toList (xs := cs), hcs]
  have v0 := World.var?_cell gLet hvar 0
  have v1 := World.var?_cell gLet hvar 1
  have v2 := World.var?_cell gLet hvar 2
  rw [harr] at v0 v1 v2
  exact ⟨v0.trans (congrArg some r0), v1.trans (congrArg some r1), v2.trans (congrArg some r2), hp⟩

theorem nmEq : Tryd.prog.typeName? 3 133 = some (match (Rows.laid_strconv_ErrSyntax : DataW Unit) with | .iface n _ => n | _ => "") := by kernel_rfl
theorem rowErr' (u : TypeId) (h : Tryd.prog.typeName? 3 u = some (match (Rows.laid_strconv_ErrSyntax : DataW Unit) with | .iface n _ => n | _ => "")) : u = 133 := rowErr u (h.trans nmEq.symm)
/-- FROM THE ROW's LIST TO THE WALKS' FACTS. -/
theorem ev_of {W : World} (h0 : laidMetH Tryd.prog lst W) (hsh : W.ShapedOpen Tryd.prog) : Ev W := by
  rw [MakeChecks.laidMetH_plain _ _ _ (by kernel_rfl)] at h0
  obtain ⟨a1, s1, hv1, -, -, -⟩ := laid_sentinel h0.tail.tail.tail.tail gER gERType Tryd.underlying91 rowErr' Tryd.underlying133 Tryd.underlying135 rfl rfl Tryd.underlying9 cellsErr cells9
  obtain ⟨a0, s0, hv0, -, -, -⟩ := laid_sentinel h0.tail.tail.tail.tail.tail gES gESType Tryd.underlying91 rowErr' Tryd.underlying133 Tryd.underlying135 rfl rfl Tryd.underlying9 cellsErr cells9
  exact ⟨let_of h0, tab_of h0, cell_of_shapedOpen_int (zero := #[.int .i64 0]) (t := 3) hsh (of_decide_eq_true (by kernel_rfl)) (by kernel_rfl) rfl (by kernel_rfl) (by kernel_rfl) Tryd.underlying3, ⟨_, _, hv0⟩, ⟨_, _, hv1⟩⟩

/-- The plain wrap with a condition on the world, the world's shape kept. -/
theorem frame_shaped {H : Type} {enc : TypeId × Value → H} {a : Assume} {C : Checked} {os : Os} {f : FuncId} {fn : Func} {s : ChangeSpec} {conds : List PathCond} {apart fresh handsOn again : Bool} {X : World → Array Value → Prop}
    (hX : ∀ (w w' : World) (args : Array Value), w.heap = w'.heap → X w args → X w' args)
    (own : ownKnob C.prog.godebug = none) (started : os.Started) (noInit : C.prog.inits.idxOf? f = none) (hfn : C.prog.funcs[f]? = some fn)
    (witness : ∃ (w : World) (tape : Tape) (i : Input), w.os = os ∧ (w.forCall tape i).Shaped C.prog ∧ i.vars = [] ∧ Input.okWide C.prog (w.forCall tape i) .any w.heap.size f i ∧
      ((s.pre enc C.prog fn conds apart (w.forCall tape i).memory i.args ∧ X (w.forCall tape i).memory i.args) ∧ sizedMet enc C.prog fn (OpenSpec.ofChange s) apart (w.forCall tape i).memory i.args) ∧ a.holds C.prog (lone (Frame.enter C.prog f i.args .normal) [] (w.forCall tape i)))
    (contract : ∀ (W : World) (base : Nat) (args : Array Value) (ds gs : List (DataW H)) (before : List MemPlace),
      (∀ (j : Nat) t v, fn.params[j]? = some t → args[j]? = some v → Value.okWide C.prog W .any base t v) →
      DataW.Whole enc C.prog fn.params.toList s.vars apart W args.toList ds gs before →
      conds.all (PathCond.test C.prog ⟨fn.params.toList, ds, s.plain.varTypes C.prog, gs⟩) = true →
      (DataW.weightsEach C.prog (fn.params.toList ++ s.plain.varTypes C.prog) (ds ++ gs)).all (· ≤ reachBytes) = true → X W args →
      W.ShapedOpen C.prog →
      a.holds C.prog (lone (Frame.enter C.prog f args .normal) [] W) →
      Calls C.prog f args W fun e W' => ∃ v, e = .returned v ∧ s.post enc C.prog fn apart fresh handsOn again W args v W') :
    ReturnsInHanded a C os f .any (fun w args => (s.pre enc C.prog fn conds apart w args ∧ X w args) ∧ sizedMet enc C.prog fn (OpenSpec.ofChange s) apart w args) (s.post enc C.prog fn apart fresh handsOn again) := by
  refine returnsInHanded_of_calls own started noInit witness ?_
  intro w tape i _ hsh _ hok hpre hholds
  obtain ⟨_, _, _, fn', hfn', _, _, _, _, hval⟩ := hok
  have e : fn' = fn := Option.some.inj (hfn'.symm.trans hfn)
  subst e
  obtain ⟨⟨⟨ds, gs, before, hw, hc⟩, hx⟩, hz⟩ := hpre
  have hw' := DataW.Whole.of_heap (w' := w.forCall tape i) (by rfl) hw
  refine (contract (w.forCall tape i) w.heap.size i.args ds gs before hval hw' hc (hz.weights hw) (hX _ _ _ (by rfl) hx) hsh hholds).mono fun e W' ⟨v, he, hp⟩ => ?_
  subst he
  exact ChangeSpec.post_blind hp
/-- A world that meets the list. -/
theorem door_met (os : Os) (args : Array Value) : laidMetH Tryd.prog lst (((World.laidAll Tryd.prog os lst).forCall (fun _ _ => 0) ⟨#[], args, []⟩).memory) := by
  rw [MakeChecks.laidMetH_plain _ _ _ (by kernel_rfl)]
  exact laidMet_laidAll _ (by kernel_rfl) (by kernel_rfl)
theorem door_shaped (os : Os) : (World.laidAll Tryd.prog os lst).Shaped Tryd.prog := World.shaped_of_ZipB (by kernel_rfl) (by kernel_rfl)
end Go.Proofs.YtfnmjbapjngmaaaDoor
