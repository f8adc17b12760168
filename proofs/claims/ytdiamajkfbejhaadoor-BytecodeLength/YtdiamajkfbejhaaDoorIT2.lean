/- Decoding inverts encoding, and encoding inverts decoding. No condition. -/
import Derived.Test.YtdiamajkfbejhaaDoorIT1
namespace Go.Proofs.YtdiamajkfbejhaaDoor
open Go.RowKit

/-- What validity says of one instruction's parts. -/
structure Okx (x : In4) : Prop where
  op : 0 ≤ x.op ∧ x.op ≤ 16
  a1 : hA (frm x.op) = true → (0 ≤ x.k ∧ x.k < 256) ∧ (0 ≤ x.n ∧ x.n < 256)
  a0 : hA (frm x.op) = false → x.k = 0 ∧ x.n = 0
  n1 : hN (frm x.op) = true → 0 ≤ x.t ∧ x.t < 65536
  n0 : hN (frm x.op) = false → x.t = 0
theorem csz_bounds {i q m e : Int} (h : csz i q m e = 0) : (0 ≤ i ∧ i ≤ 256) ∧ (0 ≤ q ∧ q ≤ 256) ∧ (0 ≤ m ∧ m ≤ 256) ∧ (0 ≤ e ∧ e ≤ 16384) := by
  unfold csz inB at h
  split at h
  · rename_i h1
    simp only [Bool.and_eq_true, decide_eq_true_eq] at h1
    omega
  · omega
theorem wid_le {i q m e k : Int} (h : csz i q m e = 0) : wid i q m k ≤ 256 := by
  have := csz_bounds h
  unfold wid
  split
  · omega
  · split
    · omega
    · split <;> omega
theorem frm_known {o : Int} (h : frm o ≠ -1) : 0 ≤ o ∧ o ≤ 16 := by
  rcases Decidable.em (0 ≤ o ∧ o ≤ 16) with h1 | h1
  · exact h1
  · exact absurd (frm_neg' o h1) h
where frm_neg' (o : Int) (h : ¬ (0 ≤ o ∧ o ≤ 16)) : frm o = -1 := by unfold frm; rw [if_pos (by omega)]
theorem okx_of {i q m e a many : Int} {x : In4} (hm : many ≤ 65535) (h : chk i q m e x.op x.k x.n x.t a many = 0) : Okx x := by
  unfold chk chk1 at h
  rcases csz_in i q m e with hc | hc
  rotate_left
  · rw [hc, if_pos rfl] at h; exact absurd h (by decide)
  have hb := csz_bounds hc
  rw [hc, if_neg (by decide)] at h
  by_cases h1 : frm x.op = -1
  · rw [if_pos h1] at h; exact absurd h (by decide)
  rw [if_neg h1] at h
  by_cases h2 : cln (frm x.op) x.k x.n x.t = false
  · rw [if_pos h2] at h; exact absurd h (by decide)
  rw [if_neg h2] at h
  have h2' : cln (frm x.op) x.k x.n x.t = true := by simpa using h2
  unfold cln at h2'
  simp only [Bool.and_eq_true, Bool.or_eq_true, decide_eq_true_eq] at h2'
  by_cases h3 : (1 ≤ frm x.op ∧ frm x.op ≤ 3) ∧ cad i q m x.k x.n ≠ 0
  · rw [if_pos h3] at h; exact absurd h h3.2
  rw [if_neg h3] at h
  unfold chk2 at h
  refine ⟨frm_known h1, fun ha => ?_, fun ha => ?_, fun hn => ?_, fun hn => ?_⟩
  · have ha' : frm x.op = 1 ∨ frm x.op = 2 ∨ frm x.op = 3 := of_decide_eq_true ha
    have hca : cad i q m x.k x.n = 0 := by
      rcases Decidable.em (cad i q m x.k x.n = 0) with e | e
      · exact e
      · exact absurd ⟨by omega, e⟩ h3
    unfold cad isSp at hca
    have hw := wid_le (k := x.k) hc
    split at hca
    · rename_i hs
      have hs' := of_decide_eq_true hs
      split at hca <;> omega
    · omega
  · have ha' : ¬ (frm x.op = 1 ∨ frm x.op = 2 ∨ frm x.op = 3) := of_decide_eq_false ha
    rcases h2'.1 with e | e
    · exact absurd e ha'
    · exact e
  · have hn' : frm x.op = 2 ∨ frm x.op = 4 := of_decide_eq_true hn
    split at h
    · omega
    · split at h
      · omega
      · split at h
        · omega
        · omega
  · have hn' : ¬ (frm x.op = 2 ∨ frm x.op = 4) := of_decide_eq_false hn
    rcases h2'.2 with e | e
    · exact absurd e hn'
    · exact e
theorem Vd.okx {i q m e : Int} {code : List In4} (h : Vd i q m e code) {k : Nat} {x : In4} (hx : code[k]? = some x) : Okx x := by
  have h1 := h.ck k (List.getElem?_eq_some_iff.1 hx).1
  rw [ckF_at hx] at h1
  exact okx_of (by have := h.big; omega) h1

theorem gb_app (p r : List UInt8) (k : Nat) : gb (p ++ r) (p.length + k) = gb r k := by
  unfold gb
  rw [List.getD_eq_getElem?_getD, List.getD_eq_getElem?_getD, List.getElem?_append_right (by omega), Nat.add_sub_cancel_left]
theorem gb_app0 (p r : List UInt8) : gb (p ++ r) p.length = gb r 0 := gb_app p r 0
theorem gn_app (p r : List UInt8) (k : Nat) : gn (p ++ r) (p.length + k) = gn r k := by
  rw [gn_gb, gn_gb, gb_app, Nat.add_assoc, gb_app]
theorem insAt_app (p r : List UInt8) : insAt (p ++ r) p.length = insAt r 0 := by
  have e0 := gb_app0 p r
  unfold insAt
  rw [e0, gb_app, gb_app]
  congr 1
  split
  · rw [show p.length + 1 + (if hA (frm (gb r 0)) = true then 2 else 0) = p.length + (1 + (if hA (frm (gb r 0)) = true then 2 else 0)) by omega, gn_app, Nat.zero_add]
  · rfl
theorem gb_zero (x : In4) (h : Okx x) (post : List UInt8) : gb (enc1 x ++ post) 0 = x.op := by
  have h1 := h.op
  show ((u8 x.op).toNat : Int) = x.op
  rw [u8_nat]; omega
theorem u8_in {n : Int} (h : 0 ≤ n ∧ n < 256) : ((u8 n).toNat : Int) = n := by rw [u8_nat]; omega
theorem insAt_enc (x : In4) (h : Okx x) (post : List UInt8) : insAt (enc1 x ++ post) 0 = x := by
  have e0 := gb_zero x h post
  unfold insAt
  rw [e0]
  have h1 := h.a1
  have h2 := h.a0
  have h3 := h.n1
  have h4 := h.n0
  obtain ⟨op, k, n, t⟩ := x
  simp only at h1 h2 h3 h4 e0 ⊢
  cases hh : hA (frm op) <;> cases hn : hN (frm op)
  · obtain ⟨rfl, rfl⟩ := h2 hh
    obtain rfl := h4 hn
    rfl
  · obtain ⟨rfl, rfl⟩ := h2 hh
    have e : gn (enc1 ⟨op, 0, 0, t⟩ ++ post) 1 = t := by
      unfold enc1
      rw [hh, hn]
      exact nb_two (h3 hn)
    simp [e]
  · obtain rfl := h4 hn
    have e1 : gb (enc1 ⟨op, k, n, 0⟩ ++ post) 1 = k := by
      unfold enc1
      rw [hh, hn]
      exact u8_in (h1 hh).1
    have e2 : gb (enc1 ⟨op, k, n, 0⟩ ++ post) 2 = n := by
      unfold enc1
      rw [hh, hn]
      exact u8_in (h1 hh).2
    simp [e1, e2]
  · have e1 : gb (enc1 ⟨op, k, n, t⟩ ++ post) 1 = k := by
      unfold enc1
      rw [hh, hn]
      exact u8_in (h1 hh).1
    have e2 : gb (enc1 ⟨op, k, n, t⟩ ++ post) 2 = n := by
      unfold enc1
      rw [hh, hn]
      exact u8_in (h1 hh).2
    have e3 : gn (enc1 ⟨op, k, n, t⟩ ++ post) 3 = t := by
      unfold enc1
      rw [hh, hn]
      exact nb_two (h3 hn)
    simp [e1, e2, e3]

section
variable {i q m e : Int} {code : List In4}
/-- What stands at instruction j of an encoding. -/
theorem enc_split (code : List In4) (post : List UInt8) {j : Nat} {x : In4} (hx : code[j]? = some x) :
    enc i q m e code ++ post = (head i q m e code.length ++ body (code.take j)) ++ (enc1 x ++ (body (code.drop (j + 1)) ++ post)) := by
  have hlt := (List.getElem?_eq_some_iff.1 hx).1
  have e1 : code = code.take j ++ (x :: code.drop (j + 1)) := by
    rw [show x = code[j] from (List.getElem?_eq_some_iff.1 hx).2.symm, List.getElem_cons_drop, List.take_append_drop]
  have e2 : body code = body (code.take j) ++ (enc1 x ++ body (code.drop (j + 1))) := by
    conv => lhs; rw [e1]
    rw [body_app]
    simp [body]
  unfold enc
  rw [e2]
  simp [List.append_assoc]
theorem dst_enc (h : Vd i q m e code) (post : List UInt8) : ∀ {j : Nat}, j ≤ code.length → dst (enc i q m e code ++ post) j = (13 + (body (code.take j)).length, code.take j) := by
  intro j
  induction j with
  | zero => intro _; simp [dst, body]
  | succ j ih =>
    intro hj
    have hx : code[j]? = some code[j] := List.getElem?_eq_getElem (by omega)
    have hp := enc_split (i := i) (q := q) (m := m) (e := e) code post hx
    have hl : (head i q m e code.length ++ body (code.take j)).length = 13 + (body (code.take j)).length := by rw [List.length_append, head_len]
    have ho := h.okx hx
    simp only [dst]
    rw [ih (by omega)]
    simp only
    rw [hp, ← hl, insAt_app, insAt_enc _ ho]
    have e0 := gb_app0 (head i q m e code.length ++ body (code.take j)) (enc1 code[j] ++ (body (code.drop (j + 1)) ++ post))
    rw [e0, gb_zero _ ho, hl, List.take_add_one, hx]
    simp only [Option.toList_some, body_snoc, List.length_append, enc1_len]
    rw [Prod.mk.injEq]
    exact ⟨by omega, rfl⟩
theorem wrg_enc (h : Vd i q m e code) (post : List UInt8) {j : Nat} (hj : j < code.length) : dfl (enc i q m e code ++ post) j = 0 := by
  have hx : code[j]? = some code[j] := List.getElem?_eq_getElem hj
  have ho := h.okx hx
  have hp := enc_split (i := i) (q := q) (m := m) (e := e) code post hx
  have hl : (head i q m e code.length ++ body (code.take j)).length = 13 + (body (code.take j)).length := by rw [List.length_append, head_len]
  unfold dfl wrg
  rw [dst_enc h post (by omega)]
  simp only
  have e0 := gb_app0 (head i q m e code.length ++ body (code.take j)) (enc1 code[j] ++ (body (code.drop (j + 1)) ++ post))
  have hlen : ((head i q m e code.length ++ body (code.take j)) ++ (enc1 code[j] ++ (body (code.drop (j + 1)) ++ post))).length = (head i q m e code.length ++ body (code.take j)).length + (1 + need (frm code[j].op) + (body (code.drop (j + 1)) ++ post).length) := by
    have h1 := enc1_len code[j]
    simp only [List.length_append] at h1 ⊢
    omega
  rw [hp, ← hl, e0, gb_zero _ ho, hlen, if_neg (by omega), if_neg (by have := ho.op; omega), if_neg (by omega)]
theorem hasM_enc (post : List UInt8) : hasM (enc i q m e code ++ post) = true := by
  unfold hasM; exact decide_eq_true rfl
theorem cnt_enc (h : Vd i q m e code) (post : List UInt8) : cnt' (enc i q m e code ++ post) = code.length := by
  have hb := h.big
  have : gn (enc i q m e code ++ post) 11 = (code.length : Int) := nb_two ⟨by omega, by omega⟩
  unfold cnt'; rw [this]; rfl
theorem sizes_enc (h : Vd i q m e code) (post : List UInt8) : gn (enc i q m e code ++ post) 3 = i ∧ gn (enc i q m e code ++ post) 5 = q ∧ gn (enc i q m e code ++ post) 7 = m ∧ gn (enc i q m e code ++ post) 9 = e := by
  have hb := csz_bounds h.sz
  exact ⟨nb_two (by omega), nb_two (by omega), nb_two (by omega), nb_two (by omega)⟩
theorem dst_full (h : Vd i q m e code) (post : List UInt8) : dst (enc i q m e code ++ post) code.length = ((enc i q m e code).length, code) := by
  rw [dst_enc h post (Nat.le_refl _), List.take_length, enc_len]
theorem rd_enc (h : Vd i q m e code) (post : List UInt8) : rdA (enc i q m e code ++ post) = if post.length = 0 then ⟨i, q, m, e, code, (enc i q m e code).length, 0⟩ else bad (enc i q m e code).length 7 := by
  have hf := fst_none (f := dfl (enc i q m e code ++ post)) (n := code.length) (fun j hj => wrg_enc h post hj)
  obtain ⟨s1, s2, s3, s4⟩ := sizes_enc h post
  have hl := enc_len i q m e code
  unfold rdA
  rw [cnt_enc h post, hasM_enc, if_neg (by decide), if_neg (by rw [List.length_append]; omega), hf, if_neg (by omega), dst_full h post, List.length_append, s1, s2, s3, s4]
  simp only
  by_cases hp : post.length = 0
  · rw [if_pos hp, if_neg (by omega), hp]; rfl
  · rw [if_neg hp, if_pos (by omega)]
theorem decA_enc (h : Vd i q m e code) : decA (enc i q m e code) = ⟨i, q, m, e, code, (enc i q m e code).length, 0⟩ := by
  have hr := rd_enc h []
  rw [List.append_nil, if_pos (show ([] : List UInt8).length = 0 from rfl)] at hr
  unfold decA
  rw [hr]
  simp only
  rw [if_neg (by decide), h.ans]
  exact if_neg (fun h0 => h0 rfl)
theorem decA_more (h : Vd i q m e code) (b : UInt8) : decA (enc i q m e code ++ [b]) = bad (enc i q m e code).length 7 := by
  have hr := rd_enc h [b]
  rw [if_neg (by simp)] at hr
  unfold decA
  rw [hr]
  exact if_pos (by show (7 : Int) ≠ 0; decide)
end
theorem gb_take {bs : List UInt8} {k a : Nat} (h : a < k) : gb (bs.take k) a = gb bs a := by
  unfold gb; rw [List.getD_eq_getElem?_getD, List.getD_eq_getElem?_getD, List.getElem?_take, if_pos h]
theorem gn_take {bs : List UInt8} {k a : Nat} (h : a + 1 < k) : gn (bs.take k) a = gn bs a := by
  rw [gn_gb, gn_gb, gb_take (by omega), gb_take h]
theorem insAt_take {bs : List UInt8} {k a : Nat} (h : a + 1 + need (frm (gb bs a)) ≤ k) : insAt (bs.take k) a = insAt bs a := by
  have e0 := gb_take (bs := bs) (show a < k by omega)
  unfold need at h
  unfold insAt
  rw [e0]
  cases hh : hA (frm (gb bs a)) <;> cases hn : hN (frm (gb bs a)) <;> rw [hh, hn] at h <;> simp only [if_true, if_false, Bool.false_eq_true, Nat.add_zero] at h ⊢
  · rw [gn_take (by omega)]
  · rw [gb_take (by omega), gb_take (by omega)]
  · rw [gb_take (by omega), gb_take (by omega), gn_take (by omega)]
theorem dst_take {bs : List UInt8} {k : Nat} : ∀ {j : Nat}, (dst bs j).1 ≤ k → dst (bs.take k) j = dst bs j := by
  intro j
  induction j with
  | zero => intro _; rfl
  | succ j ih =>
    intro h
    simp only [dst] at h ⊢
    rw [ih (by omega), gb_take (by omega), insAt_take (by omega)]
theorem dst_mono (bs : List UInt8) (j : Nat) : (dst bs j).1 < (dst bs (j + 1)).1 := by simp only [dst]; omega
/-- The last round that a shorter text still holds. -/
theorem last_in (f : Nat → Nat) (k : Nat) : ∀ n, f 0 ≤ k → k < f n → ∃ j, j < n ∧ f j ≤ k ∧ k < f (j + 1) := by
  intro n
  induction n with
  | zero => intro h1 h2; omega
  | succ n ih =>
    intro h1 h2
    by_cases h : k < f n
    · obtain ⟨j, g1, g2, g3⟩ := ih h1 h
      exact ⟨j, by omega, g2, g3⟩
    · exact ⟨n, by omega, by omega, h2⟩
theorem dst_up (bs : List UInt8) : ∀ {j l : Nat}, j ≤ l → (dst bs j).1 ≤ (dst bs l).1 := by
  intro j l
  induction l with
  | zero => intro h; obtain rfl : j = 0 := by omega
            exact Nat.le_refl _
  | succ l ih =>
    intro h
    rcases Nat.lt_or_ge l j with h1 | h1
    · obtain rfl : j = l + 1 := by omega
      exact Nat.le_refl _
    · have := ih h1
      have := dst_mono bs l
      omega
theorem decA_cut {i q m e : Int} {code : List In4} (h : Vd i q m e code) {k : Nat} (hk : k < (enc i q m e code).length) :
    decA ((enc i q m e code).take k) = if k < 3 then bad 0 6 else bad k 5 := by
  have hlen : ((enc i q m e code).take k).length = k := by rw [List.length_take]; omega
  have key : rdA ((enc i q m e code).take k) = if k < 3 then bad 0 6 else bad k 5 := by
    unfold rdA
    by_cases h3 : k < 3
    · have hm : hasM ((enc i q m e code).take k) = false := by
        unfold hasM
        apply decide_eq_false
        intro hc
        have := congrArg List.length hc
        rw [List.length_take, hlen] at this
        have h3' : mgc.length = 3 := rfl
        omega
      rw [if_pos hm, if_pos h3]
    · rw [if_neg h3]
      have hm : hasM ((enc i q m e code).take k) = true := by
        unfold hasM
        apply decide_eq_true
        rw [List.take_take, show min 3 k = 3 by omega]
        rfl
      rw [hm, if_neg (by decide), hlen]
      by_cases h13 : k < 13
      · rw [if_pos h13]
      rw [if_neg h13]
      have hc : cnt' ((enc i q m e code).take k) = code.length := by
        have := cnt_enc h []
        rw [List.append_nil] at this
        unfold cnt' at this ⊢
        rw [gn_take (by omega)]
        exact this
      have hfull := dst_full h []
      rw [List.append_nil] at hfull
      obtain ⟨j, g1, g2, g3⟩ := last_in (fun j => (dst (enc i q m e code) j).1) k code.length (by show 13 ≤ k; omega) (by show k < (dst (enc i q m e code) code.length).1; rw [hfull]; exact hk)
      have hz : ∀ l, l < j → dfl ((enc i q m e code).take k) l = 0 := by
        intro l hl
        have hw := wrg_enc h [] (show l < code.length by omega)
        rw [List.append_nil] at hw
        have hu := dst_up (enc i q m e code) (show l + 1 ≤ j by omega)
        simp only [dst] at hu
        unfold dfl wrg at hw ⊢
        rw [dst_take (by omega), hlen, gb_take (by omega)]
        rw [if_neg (by omega)]
        rw [if_neg (by omega)] at hw
        by_cases h16 : 16 < gb (enc i q m e code) (dst (enc i q m e code) l).1
        · rw [if_pos h16] at hw; exact absurd hw (by decide)
        · rw [if_neg h16, if_neg (by omega)]
      have hb : dfl ((enc i q m e code).take k) j = 5 := by
        have hw := wrg_enc h [] g1
        rw [List.append_nil] at hw
        simp only [dst] at g3
        unfold dfl wrg at hw ⊢
        rw [dst_take g2, hlen]
        by_cases hle : k ≤ (dst (enc i q m e code) j).1
        · rw [if_pos hle]
        rw [if_neg hle, gb_take (by omega)]
        rw [if_neg (by omega)] at hw
        by_cases h16 : 16 < gb (enc i q m e code) (dst (enc i q m e code) j).1
        · rw [if_pos h16] at hw; exact absurd hw (by decide)
        · rw [if_neg h16, if_pos (by omega)]
      rw [hc, fst_at g1 hz (by rw [hb]; decide), if_pos g1, hb, if_neg (by decide)]
  unfold decA
  rw [key]
  by_cases h3 : k < 3
  · rw [if_pos h3]; exact if_pos (by show (6 : Int) ≠ 0; decide)
  · rw [if_neg h3]; exact if_pos (by show (5 : Int) ≠ 0; decide)
theorem getD_drop (bs : List UInt8) (a : Nat) (h : a < bs.length) : bs.drop a = bs.getD a 0 :: bs.drop (a + 1) := by
  rw [List.getD_eq_getElem?_getD, List.getElem?_eq_getElem h]
  exact List.drop_eq_getElem_cons h
theorem u8_gb (bs : List UInt8) (a : Nat) : u8 (gb bs a) = bs.getD a 0 := u8_of _
theorem two_gn (bs : List UInt8) (a : Nat) : two (gn bs a) = [bs.getD a 0, bs.getD (a + 1) 0] := two_nb _ _
/-- An instruction that was read is encoded by the bytes it was read from. -/
theorem enc1_insAt {bs : List UInt8} {a : Nat} (h : a + 1 + need (frm (gb bs a)) ≤ bs.length) : bs.drop a = enc1 (insAt bs a) ++ bs.drop (a + 1 + need (frm (gb bs a))) := by
  unfold need at h ⊢
  unfold enc1 insAt
  simp only
  cases hh : hA (frm (gb bs a)) <;> cases hn : hN (frm (gb bs a)) <;> rw [hh, hn] at h <;> simp only [if_true, if_false, Bool.false_eq_true, Nat.add_zero, u8_gb, two_gn, List.cons_append, List.nil_append] at h ⊢
  · exact getD_drop bs a (by omega)
  · rw [getD_drop bs a (by omega), getD_drop bs (a + 1) (by omega), getD_drop bs (a + 1 + 1) (by omega)]
  · rw [getD_drop bs a (by omega), getD_drop bs (a + 1) (by omega), getD_drop bs (a + 1 + 1) (by omega)]
  · rw [getD_drop bs a (by omega), getD_drop bs (a + 1) (by omega), getD_drop bs (a + 1 + 1) (by omega), getD_drop bs (a + 1 + 1 + 1) (by omega), getD_drop bs (a + 1 + 1 + 1 + 1) (by omega)]
theorem body_dst {bs : List UInt8} : ∀ {j : Nat}, (∀ i, i < j → dfl bs i = 0) → bs.drop 13 = body (dst bs j).2 ++ bs.drop (dst bs j).1 := by
  intro j
  induction j with
  | zero => intro _; simp [dst, body]
  | succ j ih =>
    intro hz
    have h0 := hz j (by omega)
    have h1 := ih (fun i hi => hz i (by omega))
    unfold dfl wrg at h0
    simp only [dst]
    split at h0
    · omega
    split at h0
    · omega
    split at h0
    · omega
    rw [body_snoc, h1, List.append_assoc]
    congr 1
    exact enc1_insAt (by omega)
theorem take13 {bs : List UInt8} (hm : hasM bs = true) (hl : ¬ bs.length < 13) {n : Nat} (hn : (n : Int) = gn bs 11) : bs = head (gn bs 3) (gn bs 5) (gn bs 7) (gn bs 9) n ++ bs.drop 13 := by
  have h3 : bs.take 3 = mgc := of_decide_eq_true hm
  unfold head
  rw [hn, two_gn, two_gn, two_gn, two_gn, two_gn, ← h3]
  conv => lhs; rw [← List.take_append_drop 3 bs]
  rw [List.append_assoc]
  congr 1
  simp only [List.cons_append, List.nil_append]
  rw [getD_drop bs 3 (by omega), getD_drop bs (3 + 1) (by omega), getD_drop bs (3 + 1 + 1) (by omega), getD_drop bs (3 + 1 + 1 + 1) (by omega), getD_drop bs (3 + 1 + 1 + 1 + 1) (by omega), getD_drop bs (3 + 1 + 1 + 1 + 1 + 1) (by omega),
    getD_drop bs (3 + 1 + 1 + 1 + 1 + 1 + 1) (by omega), getD_drop bs (3 + 1 + 1 + 1 + 1 + 1 + 1 + 1) (by omega), getD_drop bs (3 + 1 + 1 + 1 + 1 + 1 + 1 + 1 + 1) (by omega), getD_drop bs (3 + 1 + 1 + 1 + 1 + 1 + 1 + 1 + 1 + 1) (by omega)]
theorem bad_err (a : Nat) (x : Int) (h : x ≠ 0) : ¬ (bad a x).err = 0 := h
theorem rd_inv {bs : List UInt8} (h : (rdA bs).err = 0) : enc (rdA bs).i (rdA bs).q (rdA bs).m (rdA bs).e (rdA bs).code = bs ∧ (rdA bs).at' = bs.length := by
  unfold rdA at h ⊢
  by_cases h1 : hasM bs = false
  · rw [if_pos h1] at h; exact absurd h (bad_err _ _ (by decide))
  rw [if_neg h1] at h ⊢
  by_cases h2 : bs.length < 13
  · rw [if_pos h2] at h; exact absurd h (bad_err _ _ (by decide))
  rw [if_neg h2] at h ⊢
  by_cases h3 : fst (dfl bs) (cnt' bs) < cnt' bs
  · rw [if_pos h3] at h
    split at h
    · exact absurd h (bad_err _ _ (by decide))
    · exact absurd h (bad_err _ _ (by decide))
  rw [if_neg h3] at h ⊢
  by_cases h4 : (dst bs (cnt' bs)).1 < bs.length
  · rw [if_pos h4] at h; exact absurd h (bad_err _ _ (by decide))
  rw [if_neg h4] at h ⊢
  simp only
  have hz : ∀ j, j < cnt' bs → dfl bs j = 0 := by
    rcases fst_cases (dfl bs) (cnt' bs) with ⟨_, g⟩ | ⟨g, _, _⟩
    · exact g
    · omega
  refine ⟨?_, trivial⟩
  have hb := body_dst hz
  have hle := dst_le (by omega) hz
  rw [List.drop_of_length_le (show bs.length ≤ (dst bs (cnt' bs)).1 by omega), List.append_nil] at hb
  unfold enc
  rw [dst_len, ← hb]
  have hg := nb_in (bs.getD 11 0) (bs.getD (11 + 1) 0)
  exact (take13 (by simpa using h1) h2 (by unfold cnt'; rw [Int.toNat_of_nonneg]; exact hg.1)).symm
theorem decA_inv {bs : List UInt8} (h : (decA bs).err = 0) : Vd (decA bs).i (decA bs).q (decA bs).m (decA bs).e (decA bs).code ∧ enc (decA bs).i (decA bs).q (decA bs).m (decA bs).e (decA bs).code = bs ∧ (decA bs).at' = bs.length := by
  unfold decA at h ⊢
  by_cases h1 : (rdA bs).err ≠ 0
  · rw [if_pos h1] at h; exact absurd h h1
  rw [if_neg h1] at h ⊢
  by_cases h2 : (ckA (rdA bs).i (rdA bs).q (rdA bs).m (rdA bs).e (rdA bs).code).2.2 ≠ 0
  · rw [if_pos h2] at h; exact absurd h h2
  rw [if_neg h2] at h ⊢
  exact ⟨Vd.of (Decidable.not_not.1 h2), rd_inv h⟩
theorem rdA_bad {bs : List UInt8} (h : (rdA bs).err ≠ 0) : ∃ a x, rdA bs = bad a x ∧ a ≤ bs.length := by
  unfold rdA at h ⊢
  by_cases h1 : hasM bs = false
  · exact ⟨0, 6, by rw [if_pos h1], Nat.zero_le _⟩
  rw [if_neg h1] at h ⊢
  by_cases h2 : bs.length < 13
  · exact ⟨_, 5, by rw [if_pos h2], Nat.le_refl _⟩
  rw [if_neg h2] at h ⊢
  by_cases h3 : fst (dfl bs) (cnt' bs) < cnt' bs
  · rw [if_pos h3]
    by_cases h8 : dfl bs (fst (dfl bs) (cnt' bs)) = 8
    · refine ⟨_, 8, by rw [if_pos h8], dst_le (by omega) ?_⟩
      rcases fst_cases (dfl bs) (cnt' bs) with ⟨g, _⟩ | ⟨_, g, _⟩
      · omega
      · exact g
    · exact ⟨_, 5, by rw [if_neg h8], Nat.le_refl _⟩
  rw [if_neg h3] at h ⊢
  by_cases h4 : (dst bs (cnt' bs)).1 < bs.length
  · exact ⟨_, 7, by rw [if_pos h4], by omega⟩
  · rw [if_neg h4] at h; exact absurd rfl h
theorem decA_bad {bs : List UInt8} (h : (decA bs).err ≠ 0) : ∃ a x, decA bs = bad a x ∧ a ≤ bs.length := by
  unfold decA at h ⊢
  by_cases h1 : (rdA bs).err ≠ 0
  · rw [if_pos h1]; exact rdA_bad h1
  rw [if_neg h1] at h ⊢
  by_cases h2 : (ckA (rdA bs).i (rdA bs).q (rdA bs).m (rdA bs).e (rdA bs).code).2.2 ≠ 0
  · exact ⟨_, _, by rw [if_pos h2], Nat.le_refl _⟩
  · rw [if_neg h2] at h; exact absurd h h1
theorem enc_inj {i q m e i' q' m' e' : Int} {c c' : List In4} (h : Vd i q m e c) (h' : Vd i' q' m' e' c') (he : enc i q m e c = enc i' q' m' e' c') : i = i' ∧ q = q' ∧ m = m' ∧ e = e' ∧ c = c' := by
  have h1 := decA_enc h
  rw [he, decA_enc h'] at h1
  simp only [DR.mk.injEq] at h1
  exact ⟨h1.1.symm, h1.2.1.symm, h1.2.2.1.symm, h1.2.2.2.1.symm, h1.2.2.2.2.1.symm⟩
end Go.Proofs.YtdiamajkfbejhaaDoor
