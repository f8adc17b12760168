/- What Push and Pop of the reference's stack do. Conditions: a stack of capacity at most 4096, elements of one cell. -/
import Derived.Test.YtekhljgghjibmaaIKD
import Derived.Laws.AppendOwnNone
namespace Go.Proofs.Ytekhljgghjibmaa
open Go.RowKit

set_option maxHeartbeats 800000 in
theorem refPush_full (x : ByteArray) (base b : Nat) (o : Option Nat) (cap md : Nat) (xs : List Value) (w : World) (h : Stk w 32 9 base b o cap md xs) (hf : cap ≤ xs.length) :
    Calls Try.prog 12 #[.pointer (some ⟨b, 0, none⟩), .string x] w fun e w' => e = .returned (.int .i64 10) ∧ Nx w w' := by
  obtain ⟨_, _, v, _, hb, ho⟩ := h
  obtain ⟨A, c, rfl, _⟩ := own_form ho
  have c0 := hb.cell 0 rfl
  have c1 := hb.cell 1 rfl
  have t1 : (cap : Int) ≤ (xs.length : Int) := by omega
  clear hb ho hf
  generalize xs.length = n at *
  go_enter Try.func12, Try.ntmps12
  go_wp2
  go_quiet (fail)
  go_wp2
  go_ret
  exact ⟨rfl, (by repeat (first | exact Nx.refl _ | assumption | refine Nx.drewN ?_ _ | refine Nx.drew ?_ | refine Nx.alloc ?_ _ | refine Nx.set ?_ (by first | exact Nat.le_refl _ | (simp; done) | (simp; omega)) _))⟩

def RPushPost (base b cap md : Nat) (xs : List Value) (w : World) (e : Ending) (w' : World) : Prop :=
  e = .returned (.int .i64 0) ∧ ∃ o', Stk w' 32 9 base b o' cap md xs ∧ (∀ j, o' = some j → w.heap.size ≤ j) ∧ Mv b none w w'

/-- The elements, copied onto a new empty slice. -/
theorem wpList_anew {w : World} {ops : Array Oper} {rest : List Oper} {oo : Oper} {a : Act} {Q : Exit → Act → World → Prop} (hgd : oo.guard = none) (s x : Operand)
    (ho : oo.op = .call { callee := .builtin .append, args := #[s, x], argTypes := #[30, 30] })
    (base g : Nat) (hs : a.eval s = .slice (some ⟨g, 0, none⟩) 0 0) (hown : w.ownsRow base 9 1 (.slice (some ⟨g, 0, none⟩) 0 0) 0 []) (hb : base ≤ w.heap.size)
    (v : Value) (base2 n : Nat) (xs : List Value) (hx : a.eval x = v) (hv : w.ownsRow base2 9 1 v n xs) (hn : n ≤ 4096) (h1 : ∀ u ∈ xs, u.oneCell' = true)
    (h : ∀ v' w', w'.ownsRow base 9 1 v' n xs → w.grownBy w' (some g) → wpList Try.prog ops Q rest (a.put oo.dst v') w') : wpList Try.prog ops Q (oo :: rest) a w := by
  obtain ⟨i0, hi, hz0, hz1, hz2⟩ := info_parts infost
  have hlen : xs.length = n := by have := hv.1; omega
  rcases hv.2 with ⟨rfl, rfl⟩ | ⟨g2, c, cur, rfl, _⟩
  · obtain rfl : xs = [] := List.eq_nil_of_length_eq_zero hlen
    exact wpList_append_own_none hgd s x 30 ho base 9 i0 1 Try.underlying30 hi _ 0 [] hs hown hx (h _ w hown ⟨rfl, rfl, rfl, Nat.le_refl _, fun _ _ _ => rfl⟩)
  · refine wpList_append_own w hgd s x 30 ho base 9 i0 (.string ⟨#[]⟩) 1 16 Try.underlying30 hi hz0 hz1 hz2 rfl (by decide) _ 0 [] hs hown ⟨g2, 0, none⟩ n c xs hx (by omega) (World.ownsRow.cells hv (g := g2) rfl) h1 (by unfold maxLen; omega) (by omega) hb ?_
    intro v' w1 h2 h3 _
    rw [Nat.zero_add, List.nil_append] at h2
    exact h v' w1 h2 h3
theorem refPush_done {w w2 : World} {T E : TypeId} {base b g n cc cap md md' : Nat} {v : Value} {ys : List Value} (hb : base ≤ b) (hlt : b < w.heap.size)
    (hx : Bx w2 b T [v, .int .i64 (cap : Int), .int .i64 (md : Int)]) (ho : w2.ownsRow w.heap.size E 1 (.slice (some ⟨g, 0, none⟩) n cc) n ys) (hN : Nx w w2)
    {w3 : World} (h3 : (md' = md ∧ w3 = w2.setCell ⟨b, 0, none⟩ (.slice (some ⟨g, 0, none⟩) n cc)) ∨ ∃ k, w3 = ((w2.setCell ⟨b, 0, none⟩ (.slice (some ⟨g, 0, none⟩) n cc)).drewN k).setCell ⟨b, 2, none⟩ (.int .i64 (md' : Int))) {w4 : World} (h4 : Nx w3 w4) :
    ∃ o', Stk w4 T E base b o' cap md' ys ∧ (∀ j, o' = some j → w.heap.size ≤ j) ∧ Mv b none w w4 := by
  have hg := ho.lt g rfl
  have hne : g ≠ b := by omega
  have hn : n = ys.length := by have := ho.1; omega
  subst hn
  have h0 : Mv b none w w2 := Mv.of_nx hN _ _
  have hlow : w2.ownsRow base E 1 (.slice (some ⟨g, 0, none⟩) ys.length cc) ys.length ys := by
    refine ⟨ho.1, ?_⟩
    rcases ho.2 with e | ⟨g', c', cur, e, hg', rest⟩
    · exact .inl e
    · exact .inr ⟨g', c', cur, e, by omega, rest⟩
  have key : Stk w3 T E base b (some g) cap md' ys ∧ Mv b none w w3 := by
    rcases h3 with ⟨rfl, rfl⟩ | ⟨k, rfl⟩
    · refine ⟨⟨hb, (by simpa using hne), .slice (some ⟨g, 0, none⟩) ys.length cc, rfl, hx.put 0 _, own_of hlow fun k hk _ => ?_⟩, h0.set 0 _⟩
      obtain rfl : g = k := by simpa [Value.ownBlock] using hk
      exact Deep.blk_setCell_other _ _ _ g hne
    · refine ⟨⟨hb, (by simpa using hne), .slice (some ⟨g, 0, none⟩) ys.length cc, rfl, ((hx.put 0 _).nx ((Nx.refl _).drewN k)).put 2 _, own_of hlow fun j hk _ => ?_⟩, ((h0.set 0 _).nx ((Nx.refl _).drewN k)).set 2 _⟩
      obtain rfl : g = j := by simpa [Value.ownBlock] using hk
      exact (Deep.blk_setCell_other _ _ _ g hne).trans (Deep.blk_setCell_other _ _ _ g hne)
  exact ⟨some g, key.1.nx h4, fun j hj => by obtain rfl := Option.some.inj hj; omega, key.2.nx h4⟩

set_option maxHeartbeats 1600000 in
theorem refPush_ok (x : ByteArray) (base b : Nat) (o : Option Nat) (cap md : Nat) (xs : List Value) (w : World) (h : Stk w 32 9 base b o cap md xs) (hf : xs.length < cap) (hc : cap ≤ 4096) (h1 : ∀ u ∈ xs, u.oneCell' = true) :
    Calls Try.prog 12 #[.pointer (some ⟨b, 0, none⟩), .string x] w (RPushPost base b cap (max md (xs.length + 1)) (xs ++ [.string x]) w) := by
  have hlt := h.lt
  obtain ⟨hbase, hob, v, hv, hb, ho⟩ := h
  obtain ⟨i0, hi, hz0, hz1, hz2⟩ := info_parts infost
  obtain ⟨n, hn⟩ : ∃ n, xs.length = n := ⟨_, rfl⟩
  rw [hn] at ho hf ⊢
  obtain ⟨A, c, rfl, _⟩ := own_form ho
  have c0 := hb.cell 0 rfl
  have c1 := hb.cell 1 rfl
  have t1 : ¬ (cap : Int) ≤ (n : Int) := by omega
  have HB := Lib.hid hb
  have HO := Lib.hid ho
  have H1 := Lib.hid h1
  have HLT := Lib.hid hlt
  clear hb ho hv hob hn h1
  go_enter Try.func12, Try.ntmps12
  go_wp2
  go_quiet (fail)
  have K1 := Lib.hid ((Nx.refl w).drewN nq)
  have z1 := Lib.hid (show (w.drewN nq).heap.size = w.heap.size from rfl)
  clear c0 c1 hlt
  generalize w.drewN nq = w1 at *
  have hlt1 : b < w1.heap.size := by rw [z1.out]; exact HLT.out
  have d0 := (HB.out.nx (K1.out.alloc (.cells #[] 9))).cell 0 rfl
  have HA := Lib.hid (World.ownsRow_lit (base := w.heap.size) (e := 9) (size := 1) w1 #[] 0 (by rw [z1.out]; exact Nat.le_refl _) (by unfold maxLen; omega) rfl)
  have HV := Lib.hid (own_of (w' := w1.alloc (.cells #[] 9)) HO.out (fun g _ hl => (K1.out.alloc (.cells #[] 9)).block g hl))
  have K2 := Lib.hid (K1.out.alloc (.cells #[] 9))
  go_wp2_with (first
    | (at_builtin
       refine wpList_anew rfl (.tmp 16) (.tmp 20) rfl w.heap.size w1.heap.size rfl HA.out K2.out.size (.slice A n c) base n xs rfl HV.out (by omega) H1.out ?_
       intro v3 w3 ho3 hg3
       have HO3 := Lib.hid ho3
       have K3 := Lib.hid (show Nx w w3 from Below.grown K2.out hg3 K2.out.size (fun k e => by have := Option.some.inj e; have := z1.out; omega))
       have HA3 := Lib.hid (own_of (w' := w3.alloc (.cells #[.string x] 9)) HO3.out (fun g _ hl => (Nx.one w3 (.cells #[.string x] 9)).block g hl))
       have HW := Lib.hid (new_one w3 (.string x) 9)
       have K4 := Lib.hid (K3.out.alloc (.cells #[.string x] 9))
       clear ho3 hg3)
    | (at_builtin
       refine wpList_append_lies _ rfl (.tmp 21) (.tmp 23) 30 rfl w.heap.size 9 i0 (.string ⟨#[]⟩) 1 16 Try.underlying30 hi hz0 hz1 hz2 rfl (by decide) v3 n xs rfl HA3.out ⟨w3.heap.size, 0, none⟩ 1 1 [.string x] rfl rfl HW.out (by simp [Value.oneCell']) (by decide) (by unfold maxLen; omega) (by omega) K4.out.size _ rfl ?_
       intro g cc w5 ho5 hg5 _ _
       have HO5 := Lib.hid ho5
       have K5 := Lib.hid (show Nx w w5 from grown_nx K4.out hg5 HA3.out (Nat.le_refl _))
       have HX5 := Lib.hid (HB.out.nx K5.out)
       have f0 := HX5.out.frozen 0
       have d0 := HX5.out.cell 0 rfl
       have e0 := (HX5.out.put 0 (.slice (some ⟨g, 0, none⟩) (n + 1) cc)).cell 0 rfl
       have e2 := (HX5.out.put 0 (.slice (some ⟨g, 0, none⟩) (n + 1) cc)).cell 2 rfl
       have f2 := (HX5.out.put 0 (.slice (some ⟨g, 0, none⟩) (n + 1) cc)).frozen 2
       clear ho5 hg5))
  by_cases hm : (md : Int) < (n : Int) + 1
  · have hm' := Lib.hid (show max md (n + 1) = n + 1 by omega)
    go_quiet (fail)
    go_wp2
    go_ret
    exact ⟨rfl, refPush_done hbase HLT.out HX5.out HO5.out K5.out (.inr ⟨_, by rw [hm'.out]; rfl⟩) (Nx.refl _)⟩
  · have hm' := Lib.hid (show max md (n + 1) = md by omega)
    go_quiet (fail)
    go_wp2
    go_ret
    exact ⟨rfl, refPush_done hbase HLT.out HX5.out HO5.out K5.out (.inl ⟨hm'.out, rfl⟩) ((Nx.refl _).drewN _)⟩

theorem refPop_done {w : World} {T E : TypeId} {base b g n c cap md : Nat} {xs : List Value} {x : Value} {k l : Nat} (hb : base ≤ b) (hne : g ≠ b) (hx : Bx w b T [.slice (some ⟨g, 0, none⟩) (n + 1) c, .int .i64 (cap : Int), .int .i64 (md : Int)])
    (ho : w.ownsRow base E 1 (.slice (some ⟨g, 0, none⟩) (n + 1) c) (n + 1) (xs ++ [x])) (hn : xs.length = n) :
    Stk (((w.drewN k).setCell ⟨b, 0, none⟩ (.slice (some ⟨g, 0, none⟩) n c)).drewN l) T E base b (some g) cap md xs ∧ Mv b none w (((w.drewN k).setCell ⟨b, 0, none⟩ (.slice (some ⟨g, 0, none⟩) n c)).drewN l) := by
  have ho' : w.ownsRow base E 1 (.slice (some ⟨g, 0, none⟩) n c) n xs := own_less ho hn
  subst hn
  have h1 : Stk ((w.drewN k).setCell ⟨b, 0, none⟩ (.slice (some ⟨g, 0, none⟩) xs.length c)) T E base b (some g) cap md xs :=
    ⟨hb, (by simpa using hne), .slice (some ⟨g, 0, none⟩) xs.length c, rfl, (hx.nx ((Nx.refl _).drewN k)).put 0 _, own_of ho' fun j hk _ => by
      obtain rfl : g = j := by simpa [Value.ownBlock] using hk
      exact Deep.blk_setCell_other _ _ _ g hne⟩
  exact ⟨h1.nx ((Nx.refl _).drewN l), ((((Mv.refl b none w).nx ((Nx.refl _).drewN k)).set 0 _).nx ((Nx.refl _).drewN l))⟩
set_option maxHeartbeats 400000 in
theorem refPop_none (base b : Nat) (o : Option Nat) (cap md : Nat) (w : World) (h : Stk w 32 9 base b o cap md []) :
    Calls Try.prog 14 #[.pointer (some ⟨b, 0, none⟩)] w fun e w' => e = .returned (.tuple #[.string ⟨#[]⟩, .int .i64 18]) ∧ w = w' := by
  obtain ⟨_, _, v, _, hb, ho⟩ := h
  obtain ⟨A, c, rfl, _⟩ := own_form ho
  have c0 := hb.cell 0 rfl
  clear hb ho
  go_enter Try.func14, Try.ntmps14
  go_wp2
  go_ret2
  exact ⟨rfl, rfl⟩
set_option maxHeartbeats 1600000 in
theorem refPop_ok (base b : Nat) (o : Option Nat) (cap md : Nat) (xs : List Value) (x : Value) (w : World) (h : Stk w 32 9 base b o cap md (xs ++ [x])) (hl : xs.length ≤ 4096) :
    Calls Try.prog 14 #[.pointer (some ⟨b, 0, none⟩)] w fun e w' => e = .returned (.tuple #[x, .int .i64 0]) ∧ Stk w' 32 9 base b o cap md xs ∧ Mv b none w w' := by
  obtain ⟨hbase, hob, v, hv, hb, ho⟩ := h
  rw [List.length_append, List.length_singleton] at ho
  obtain ⟨g, c, rfl, hbg, hgs⟩ := ho.form (by omega)
  obtain ⟨n, hn⟩ : ∃ n, xs.length = n := ⟨_, rfl⟩
  rw [hn] at hl ho hb
  have hcg := ho.cellAt n (by omega)
  rw [List.getElem?_append_right (by omega), hn, Nat.sub_self] at hcg
  have hov : o = some g := by rw [← hv]; rfl
  subst hov
  have hne : g ≠ b := by intro e; exact hob (by rw [e])
  have c0 := hb.cell 0 rfl
  have f0 := hb.frozen 0
  have hcc : n + 1 ≤ c := own_cap ho
  have i1 : (n : Int) < ((n + 1 : Nat) : Int) := by omega
  have HF := Lib.hid (fun k l => refPop_done (k := k) (l := l) hbase hne hb ho hn)
  clear hb ho hv hob hn
  go_enter Try.func14, Try.ntmps14
  go_wp2
  go_quiet (fail)
  go_wp2
  go_region
  go_wp2
  go_ret2
  exact ⟨rfl, HF.out _ 0⟩
end Go.Proofs.Ytekhljgghjibmaa
