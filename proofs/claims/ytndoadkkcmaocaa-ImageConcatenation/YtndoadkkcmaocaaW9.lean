/- The walk of ImageConcatenation. Conditions: slices that read as lists of bools; a nil slice has no capacity. -/
import Derived.Test.YtndoadkkcmaocaaW8
import Derived.Laws.AppendOwnNone
namespace Go.Proofs.Ytndoadkkcmaocaa
open Go.RowKit

theorem rd_none {w : World} {ys : List Bool} (h : Rd w none ys) : ys = [] := by
  cases ys with
  | nil => rfl
  | cons b l => obtain ⟨ad, e, _⟩ := h 0 b rfl; cases e

/-- append of an image, nil or not, to a row of the call's own. -/
theorem wpList_app {w : World} {ops : Array Oper} {rest : List Oper} {o : Oper} {a : Act} {Q : Exit → Act → World → Prop} (hgd : o.guard = none) (s x : Operand)
    (ho : o.op = .call { callee := .builtin .append, args := #[s, x], argTypes := #[22, 22] })
    (base : Nat) (v : Value) (xs : List Bool) (hs : a.eval s = v) (hown : w.ownsRow base 4 1 v xs.length (bools xs)) (hl : xs.length ≤ 1000000) (hb : base ≤ w.heap.size)
    (A : Option Addr) (m c : Nat) (ys : List Bool) (hx : a.eval x = .slice A m c) (hy : ys.length = m) (hm : m ≤ 1000000) (hc : A = none → c = 0) (hr : Rd w A ys)
    (h : ∀ v' w', w'.ownsRow base 4 1 v' (xs ++ ys).length (bools (xs ++ ys)) → w.grownBy w' v.ownBlock → wpList Try.prog ops Q rest (a.put o.dst v') w') : wpList Try.prog ops Q (o :: rest) a w := by
  obtain ⟨i0, hi, hz0, hz1, hz2⟩ := info_parts info4
  cases A with
  | none =>
    obtain rfl := rd_none hr
    obtain rfl := hc rfl
    subst hy
    exact wpList_append_own_none hgd s x 22 ho base 4 i0 1 Try.underlying22 hi v xs.length (bools xs) hs hown hx (h v w (by rw [List.append_nil]; exact hown) ⟨rfl, rfl, rfl, Nat.le_refl _, fun _ _ _ => rfl⟩)
  | some ad =>
    refine wpList_append_own w hgd s x 22 ho base 4 i0 (.bool false) 1 1 Try.underlying22 hi hz0 hz1 hz2 rfl (by decide) v xs.length (bools xs) hs hown ad m c (bools ys) hx (by rw [bools_length, hy]; omega) (src_of hr) (bools_one ys) (by unfold maxLen; omega) (by omega) hb ?_
    intro v' w1 h1 h2 _
    refine h v' w1 ?_ h2
    rw [List.length_append, hy, show bools (xs ++ ys) = bools xs ++ bools ys by simp [bools]]
    exact h1

theorem cnt_append (xs ys : List Bool) : cnt (xs ++ ys) = cnt xs + cnt ys := by unfold cnt; exact List.countP_append
theorem tx_append (xs ys : List Bool) : tx (xs ++ ys) = tx xs ++ tx ys := by
  unfold tx; apply ByteArray.ext; simp

theorem own_len {w : World} {base p : Nat} {v : Value} {L zs : List Bool} (h : w.ownsRow base 4 1 v L.length (bools L)) (hL : L = zs) (hz : zs.length = p) : ∃ A c, v = .slice A p c ∧ Rd w A zs := by
  subst hL; subst hz; exact own_bools h

set_option maxHeartbeats 3200000 in
theorem law9_main (A A2 : Option Addr) (xs ys : List Bool) (m n c d : Nat) (hx : xs.length = m) (hy : ys.length = n) (hm : m ≤ 1000) (hn : n ≤ 1000) (w : World) (hr : Rd w A xs) (hs : Rd w A2 ys) (hc : A = none → c = 0) (hd : A2 = none → d = 0) :
    Calls Try.prog 9 #[.slice A m c, .slice A2 n d] w fun e w' => e = .returned (.bool true) ∧ Nx w w' := by
  have h1 : ¬ (1000 : Int) < (m : Int) := by omega
  have h2 : ¬ (1000 : Int) < (n : Int) := by omega
  have HR := Lib.hid hr
  have HS := Lib.hid hs
  have HC := Lib.hid hc
  have HD := Lib.hid hd
  have HX := Lib.hid hx
  have HY := Lib.hid hy
  have HO0 := Lib.hid (fun w : World => World.ownsRow_lit (base := w.heap.size) (e := 4) (size := 1) w #[] 0 (Nat.le_refl _) (by unfold maxLen; omega) rfl)
  obtain ⟨p, hp⟩ : ∃ p, m + n = p := ⟨_, rfl⟩
  have HZ := Lib.hid (show (xs ++ ys).length = p by rw [List.length_append, hx, hy, hp])
  have HU := Lib.hid (show (ys ++ xs).length = p by rw [List.length_append, hx, hy, ← hp]; omega)
  have hp1 : p ≤ 2000 := by omega
  have b1 : cnt xs ≤ 1000 := Nat.le_trans (cnt_le _) (by omega)
  have b2 : cnt ys ≤ 1000 := Nat.le_trans (cnt_le _) (by omega)
  have HCx := Lib.hid (fun (w : World) hr => by have := count_any A xs c (by omega) w hr; rwa [hx] at this)
  have HCy := Lib.hid (fun (w : World) hr => by have := count_any A2 ys d (by omega) w hr; rwa [hy] at this)
  have HCz := Lib.hid (fun (w : World) (A : Option Addr) (c : Nat) hr => by have := count_any A (xs ++ ys) c (by rw [HZ.out]; omega) w hr; rwa [HZ.out, cnt_append, Int.natCast_add] at this)
  have HCu := Lib.hid (fun (w : World) (A : Option Addr) (c : Nat) hr => by have := count_any A (ys ++ xs) c (by rw [HU.out]; omega) w hr; rwa [HU.out, cnt_append, Nat.add_comm, Int.natCast_add] at this)
  have HFx := Lib.hid (fun (w : World) hr => by have := format_any A xs c (by omega) w hr; rwa [hx] at this)
  have HFy := Lib.hid (fun (w : World) hr => by have := format_any A2 ys d (by omega) w hr; rwa [hy] at this)
  have HFz := Lib.hid (fun (w : World) (A : Option Addr) (c : Nat) hr => by have := format_any A (xs ++ ys) c (by rw [HZ.out]; omega) w hr; rwa [HZ.out] at this)
  have HT := Lib.hid (fun (h1 : 0 < m) (h2 : 0 < n) => show txt (xs ++ ys) = txt xs ++ txt ys by
    rw [txt_pos (by rw [List.length_append]; omega), txt_pos (by omega), txt_pos (by omega), tx_append])
  have HB1 := Lib.hid (fun (h1 : 0 < m) => show (txt xs).size ≤ 1000 by rw [txt_pos (by omega), size_tx]; omega)
  have HB2 := Lib.hid (fun (h1 : 0 < n) => show (txt ys).size ≤ 1000 by rw [txt_pos (by omega), size_tx]; omega)
  have hnl : ([] : List Bool) ++ xs = xs := rfl
  clear hr hs hc hd hx hy hp hnl
  generalize hzs : xs ++ ys = zs at *
  generalize hus : ys ++ xs = us at *
  have HZS := Lib.hid hzs
  have HUS := Lib.hid hus
  generalize cnt xs = t1 at *
  generalize cnt ys = t2 at *
  clear hzs hus
  go_enter Try.func9, Try.ntmps9
  go_wp2_with (first
    | (refine wpList_app rfl (.tmp 16) (.tmp 17) rfl w.heap.size _ [] rfl (HO0.out w) (by simp) (by simp) A m c xs rfl HX.out (by omega) HC.out (HR.out.nx (Nx.one _ _)) ?_
       intro v1 w1 ho1 hg1
       have HO1 := Lib.hid ho1
       have HN1 := Lib.hid (grown_nx ((Nx.refl w).alloc _) hg1 (HO0.out w) (Nat.le_refl _))
       clear ho1 hg1)
    | (refine wpList_app rfl (.tmp 18) (.tmp 19) rfl w.heap.size _ ([] ++ xs) rfl HO1.out (by rw [List.nil_append, HX.out]; omega) HN1.out.size A2 n d ys rfl HY.out (by omega) HD.out (HS.out.nx HN1.out) ?_
       intro v2 w2 ho2 hg2
       have HN2 := Lib.hid (grown_nx HN1.out hg2 HO1.out (Nat.le_refl _))
       obtain ⟨A3, c3, rfl, hr3⟩ := own_len ho2 HZS.out HZ.out
       have HR3 := Lib.hid hr3
       clear ho2 hg2 hr3)
    | (refine wpList_app rfl (.tmp 21) (.tmp 22) rfl w2.heap.size _ [] rfl (HO0.out w2) (by simp) (by simp) A2 n d ys rfl HY.out (by omega) HD.out (HS.out.nx (HN2.out.alloc _)) ?_
       intro v3 w3 ho3 hg3
       have HO3 := Lib.hid ho3
       have HN3 := Lib.hid (grown_nx ((Nx.refl w2).alloc _) hg3 (HO0.out w2) (Nat.le_refl _))
       clear ho3 hg3)
    | (refine wpList_app rfl (.tmp 23) (.tmp 24) rfl w2.heap.size _ ([] ++ ys) rfl HO3.out (by rw [List.nil_append, HY.out]; omega) HN3.out.size A m c xs rfl HX.out (by omega) HC.out (HR.out.nx (HN2.out.trans HN3.out)) ?_
       intro v4 w4 ho4 hg4
       have HN4 := Lib.hid (grown_nx HN3.out hg4 HO3.out (Nat.le_refl _))
       obtain ⟨A5, c5, rfl, hr5⟩ := own_len ho4 HUS.out HU.out
       have HR5 := Lib.hid hr5
       have HN := Lib.hid (HN2.out.trans HN4.out)
       clear ho4 hg4 hr5)
    | (go_at_call 22; first
        | ((with_reducible refine (HCx.out _ (HR.out.nx HN.out)).mono ?_); rintro e w5 ⟨rfl, rfl⟩)
        | ((with_reducible refine (HCy.out _ (HS.out.nx HN.out)).mono ?_); rintro e w5 ⟨rfl, rfl⟩)
        | ((with_reducible refine (HCz.out _ A3 c3 (HR3.out.nx HN4.out)).mono ?_); rintro e w5 ⟨rfl, rfl⟩)
        | ((with_reducible refine (HCu.out _ A5 c5 HR5.out).mono ?_); rintro e w5 ⟨rfl, rfl⟩)))
  refine (alive_any _).mono ?_
  rintro e w6 ⟨rfl, hn6⟩
  have HN6 := Lib.hid hn6
  have HA := Lib.hid (HN.out.trans hn6)
  clear hn6
  by_cases m0 : m = 0
  · subst m0
    go_wp2
    go_ret
    exact ⟨rfl, HA.out⟩
  have e0 : ((m : Int) == 0) = false := by rw [beq_eq_false_iff_ne]; omega
  by_cases n0 : n = 0
  · subst n0
    go_wp2
    go_ret
    exact ⟨rfl, HA.out⟩
  have e1 : ((n : Int) == 0) = false := by rw [beq_eq_false_iff_ne]; omega
  have HTT := Lib.hid (HT.out (by omega) (by omega))
  have s1 := HB1.out (by omega)
  have s2 := HB2.out (by omega)
  have hcat : ∀ w : World, (Op.stringOp .add (txt xs) (txt ys)).run Try.prog w = .ok (.string (txt xs ++ txt ys)) w := fun w => run_string_add_sum w _ _ (by omega)
  clear m0 n0
  generalize txt xs = q1 at *
  generalize txt ys = q2 at *
  generalize txt zs = q3 at *
  obtain rfl := HTT.out
  go_wp2_with (go_at_call 13; first
    | ((with_reducible refine (HFx.out _ (HR.out.nx (HA.out.trans HN8.out))).mono ?_); rintro e w9 ⟨rfl, hn9⟩; have HN9 := Lib.hid (HN8.out.trans hn9); clear hn9)
    | ((with_reducible refine (HFy.out _ (HS.out.nx (HA.out.trans HN9.out))).mono ?_); rintro e w10 ⟨rfl, hn10⟩; have HN10 := Lib.hid (HN9.out.trans hn10); clear hn10)
    | ((with_reducible refine (HFz.out _ A3 c3 ((HR3.out.nx HN4.out).nx HN6.out)).mono ?_); rintro e w8 ⟨rfl, hn8⟩; have HN8 := Lib.hid hn8; clear hn8))
  go_ret
  exact ⟨rfl, HA.out.trans HN10.out⟩

set_option maxHeartbeats 800000 in
theorem law9 (A A2 : Option Addr) (xs ys : List Bool) (m n c d : Nat) (hx : xs.length = m) (hy : ys.length = n) (w : World) (hr : Rd w A xs ∧ (A = none → c = 0)) (hs : Rd w A2 ys ∧ (A2 = none → d = 0)) :
    Calls Try.prog 9 #[.slice A m c, .slice A2 n d] w fun e w' => e = .returned (.bool true) ∧ Nx w w' := by
  by_cases hm : 1000 < m
  · have h1 : (1000 : Int) < (m : Int) := by omega
    clear hr hx hy hs
    go_enter Try.func9, Try.ntmps9
    go_wp2_with (go_at_call 10; refine (alive_any _).mono ?_; rintro e w' ⟨rfl, h9⟩)
    go_ret
    exact ⟨rfl, h9⟩
  by_cases hn : 1000 < n
  · have h1 : ¬ (1000 : Int) < (m : Int) := by omega
    have h2 : (1000 : Int) < (n : Int) := by omega
    clear hr hx hy hs
    go_enter Try.func9, Try.ntmps9
    go_wp2_with (go_at_call 10; refine (alive_any _).mono ?_; rintro e w' ⟨rfl, h9⟩)
    go_ret
    exact ⟨rfl, h9⟩
  exact law9_main A A2 xs ys m n c d hx hy (by omega) (by omega) w hr.1 hs.1 hr.2 hs.2
end Go.Proofs.Ytndoadkkcmaocaa
