/- What image.Diff and the reference's Diff return. Conditions: slices whose cells read as lists of bools, of at most a million. -/
import Derived.Test.YtndoadkkcmaocaaC
namespace Go.Proofs.Ytndoadkkcmaocaa
open Go.RowKit

/-- The cells of a slice read as the list of the numbers xs. -/
def RdI (w : World) (A : Option Addr) (xs : List Nat) : Prop := ∀ (k n : Nat), xs[k]? = some n → ∃ ad, A = some ad ∧ w.cell? (ad.add k) = some (.int .i64 n)
theorem RdI.nx {w w' : World} {A : Option Addr} {xs : List Nat} (h : RdI w A xs) (k : Nx w w') : RdI w' A xs := fun i b hi => by
  obtain ⟨ad, e, hc⟩ := h i b hi
  exact ⟨ad, e, k.cell hc⟩
def ints (xs : List Nat) : List Value := xs.map fun (n : Nat) => Value.int .i64 (n : Int)
theorem ints_snoc (xs : List Nat) (n : Nat) : ints (xs ++ [n]) = ints xs ++ [.int .i64 (n : Int)] := by simp [ints]
def bools (xs : List Bool) : List Value := xs.map Value.bool
theorem bools_snoc (xs : List Bool) (b : Bool) : bools (xs ++ [b]) = bools xs ++ [.bool b] := by simp [bools]
theorem bools_one (xs : List Bool) : ∀ u ∈ bools xs, u.oneCell' = true := by
  intro u hu; obtain ⟨b, _, rfl⟩ := List.mem_map.1 hu; rfl

theorem own_drewN {w : World} {base : Nat} {e : TypeId} {size n : Nat} {v : Value} {xs : List Value} (h : w.ownsRow base e size v n xs) (k : Nat) : (w.drewN k).ownsRow base e size v n xs := h
/-- What is owned is a slice. -/
theorem own_form {w : World} {base : Nat} {e : TypeId} {v : Value} {n : Nat} {xs : List Value} (h : w.ownsRow base e 1 v n xs) :
    ∃ A c, v = .slice A n c ∧ ∀ (k : Nat) (u : Value), xs[k]? = some u → ∃ ad, A = some ad ∧ w.cell? (ad.add k) = some u := by
  rcases h.2 with ⟨rfl, rfl⟩ | ⟨g, cap, cur, rfl, h1, h2, h3, h4, h5, h6⟩
  · have hx : xs = [] := List.eq_nil_of_length_eq_zero (by simpa using h.1)
    subst hx
    exact ⟨none, 0, rfl, fun k u hu => by simp at hu⟩
  · exact ⟨some ⟨g, 0, none⟩, cap, rfl, fun k u hu => ⟨_, rfl, h.cells (g := g) rfl k u hu⟩⟩
theorem own_ints {w : World} {base : Nat} {v : Value} {n : Nat} {xs : List Nat} (h : w.ownsRow base 3 1 v n (ints xs)) :
    ∃ A c, v = .slice A xs.length c ∧ RdI w A xs := by
  obtain ⟨A, c, rfl, hc⟩ := own_form h
  have hn : n = xs.length := by have := h.1; simpa [ints] using this.symm
  subst hn
  exact ⟨A, c, rfl, fun k n hk => hc k _ (by simp [ints, hk])⟩
theorem own_bools {w : World} {base : Nat} {v : Value} {n : Nat} {xs : List Bool} (h : w.ownsRow base 4 1 v n (bools xs)) :
    ∃ A c, v = .slice A xs.length c ∧ Rd w A xs := by
  obtain ⟨A, c, rfl, hc⟩ := own_form h
  have hn : n = xs.length := by have := h.1; simpa [bools] using this.symm
  subst hn
  exact ⟨A, c, rfl, fun k n hk => hc k _ (by simp [bools, hk])⟩
/-- The one cell of a literal of one element. -/
theorem new_one (w : World) (u : Value) (t : TypeId) : ∀ j v, [u][j]? = some v → (w.alloc (.cells #[u] t)).cell? ((⟨w.heap.size, 0, none⟩ : Addr).add j) = some v := by
  intro j v hj
  match j, hj with
  | 0, hj => simp at hj; subst hj; simp [Addr.add]

/-- The places at which two lists differ. -/
def difK (xs ys : List Bool) (k : Nat) : List Nat := (List.range k).filter fun i => xs.getD i false != ys.getD i false
def dif (xs ys : List Bool) : List Nat := difK xs ys xs.length
theorem difK_le (xs ys : List Bool) (k : Nat) : (difK xs ys k).length ≤ k := by
  unfold difK; have := List.length_filter_le (fun i => xs.getD i false != ys.getD i false) (List.range k); simpa using this
theorem difK_eq {xs ys : List Bool} {k : Nat} {a : Bool} (ha : xs[k]? = some a) (hb : ys[k]? = some a) : difK xs ys (k + 1) = difK xs ys k := by
  unfold difK; rw [List.range_succ, List.filter_append]; simp [ha, hb]
theorem difK_ne {xs ys : List Bool} {k : Nat} {a b : Bool} (ha : xs[k]? = some a) (hb : ys[k]? = some b) (h : a ≠ b) : difK xs ys (k + 1) = difK xs ys k ++ [k] := by
  unfold difK; rw [List.range_succ, List.filter_append]; simp [ha, hb, h]

theorem grown_nx {w0 w w' : World} {v : Value} (h : Nx w0 w) (hg : w.grownBy w' v.ownBlock) {base : Nat} {e : TypeId} {size n : Nat} {xs : List Value} (hown : w.ownsRow base e size v n xs) (hb : w0.heap.size ≤ base) : Nx w0 w' :=
  Below.grown h hg h.size fun k hk => Nat.le_trans hb (hown.lt k hk).1

set_option maxHeartbeats 800000 in
theorem diff_len (A B : Option Addr) (m n c d : Nat) (h : m ≠ n) (w : World) :
    Calls Try.prog 19 #[.slice A m c, .slice B n d] w fun e w' => e = .returned (.tuple #[.slice none 0 0, .int .i64 2]) ∧ w = w' := by
  have h1 : ((m : Int) == n) = false := by rw [beq_eq_false_iff_ne]; omega
  have h2 : ((m : Int) != n) = true := by rw [bne_iff_ne]; omega
  go_enter Try.func19, Try.ntmps19
  go_wp2
  go_ret2
  exact ⟨rfl, rfl⟩

def DiffPost (xs ys : List Bool) (w : World) (e : Ending) (w' : World) : Prop :=
  ∃ A c, e = .returned (.tuple #[.slice A (dif xs ys).length c, .int .i64 0]) ∧ RdI w' A (dif xs ys) ∧ Nx w w'
theorem diffPost_of {xs ys : List Bool} {w w' : World} {v : Value} {n k : Nat} (hk : k = xs.length) (hown : w'.ownsRow w.heap.size 3 1 v n (ints (difK xs ys k))) (hnx : Nx w w') :
    DiffPost xs ys w (.returned (.tuple #[v, .int .i64 0])) w' := by
  subst hk
  obtain ⟨A, c, rfl, hr⟩ := own_ints hown
  exact ⟨A, c, rfl, hr, hnx⟩

set_option maxHeartbeats 1600000 in
theorem diff_same (A B : Option Addr) (xs ys : List Bool) (n c d : Nat) (hx : xs.length = n) (hy : ys.length = n) (hl : n ≤ 1000000) (w : World) (hr : Rd w A xs) (hs : Rd w B ys) :
    Calls Try.prog 19 #[.slice A n c, .slice B n d] w (DiffPost xs ys w) := by
  obtain ⟨i0, hi, hz0, hz1, hz2⟩ := info_parts info3
  have HR := Lib.hid hr
  have HS := Lib.hid hs
  have HX := Lib.hid hx
  have HY := Lib.hid hy
  clear hr hs hx hy
  go_enter Try.func19, Try.ntmps19
  go_wp2
  go_loopw [6, 15] (fun v i wr => ∃ k : Nat, k ≤ n ∧ i = .int .i64 k ∧ wr.ownsRow w.heap.size 3 1 v (difK xs ys k).length (ints (difK xs ys k)) ∧ Nx w wr) (fun _ i _ => n - (intOf i).toNat)
  case atStart => exact ⟨0, Nat.zero_le _, rfl, World.ownsRow_nil _ _ _ _, Nx.refl _⟩
  case round =>
    obtain ⟨k, hk, rfl, hown, hnx⟩ := hrel
    have HN := Lib.hid hnx
    have HO := Lib.hid hown
    by_cases hlt : k < n
    · obtain ⟨a, ha⟩ := at_some xs k (by rw [HX.out]; exact hlt)
      obtain ⟨b, hb⟩ := at_some ys k (by rw [HY.out]; exact hlt)
      obtain ⟨ad, rfl, hc⟩ := (HR.out.nx hnx) k a ha
      obtain ⟨bd, rfl, hd⟩ := (HS.out.nx hnx) k b hb
      have HA := Lib.hid ha
      have HB := Lib.hid hb
      clear ha hb hnx hown
      by_cases he : a = b
      · subst he
        have HK := Lib.hid (difK_eq HA.out HB.out)
        have e1 : (a == a) = true := by simp
        have e2 : (a != a) = false := by simp
        go_wp2
        go_quiet (fail)
        go_wp2
        go_roundw
        case rel => exact ⟨k + 1, by omega, by go_num, by rw [HK.out]; exact HO.out, by first | exact HN.out | exact HN.out.drewN _⟩
        case measure => simp [intOf]; omega
      · have e1 : (a == b) = false := by simpa using he
        have e2 : (a != b) = true := by simpa using he
        have HK := Lib.hid (difK_ne HA.out HB.out he)
        have hle := difK_le xs ys k
        clear he
        go_wp2
        go_quiet (fail)
        go_wp2_with (at_builtin; refine wpList_append_own _ rfl (.tmp 27) (.tmp 29) 37 rfl w.heap.size 3 i0 (.int .i64 0) 1 8 Try.underlying37 hi hz0 hz1 hz2 rfl (by decide) _ _ _ rfl (World.ownsRow.alloc (own_drewN HO.out _) _) ⟨_, 0, none⟩ 1 1 [.int .i64 (k : Int)] rfl rfl (new_one _ _ _) (by intro u hu; simp at hu; subst hu; rfl) (by unfold maxLen; omega) (by omega) (by have := HN.out.size; simp; omega) ?_; intro v' w1 hown' hgrow _; have HO1 := Lib.hid hown'; have HG := Lib.hid hgrow; clear hown' hgrow)
        go_roundw
        case rel => exact ⟨k + 1, by omega, by go_num, by rw [HK.out, ints_snoc, List.length_append]; exact HO1.out, grown_nx ((HN.out.drewN _).alloc _) HG.out (World.ownsRow.alloc (own_drewN HO.out _) _) (Nat.le_refl _)⟩
        case measure => simp [intOf]; omega
    · have hkn : k = n := by omega
      have HE := Lib.hid (diffPost_of (hkn.trans HX.out.symm) hown hnx)
      clear hnx hkn hown
      go_wp2
      go_ret2
      exact HE.out
set_option maxHeartbeats 800000 in
theorem refDiff_len (A B : Option Addr) (m n c d : Nat) (h : m ≠ n) (w : World) :
    Calls Try.prog 20 #[.slice A m c, .slice B n d] w fun e w' => e = .returned (.tuple #[.slice none 0 0, .int .i64 2]) ∧ w = w' := by
  have h1 : ((m : Int) == n) = false := by rw [beq_eq_false_iff_ne]; omega
  have h2 : ((m : Int) != n) = true := by rw [bne_iff_ne]; omega
  go_enter Try.func20, Try.ntmps20
  go_wp2
  go_ret2
  exact ⟨rfl, rfl⟩

set_option maxHeartbeats 1600000 in
theorem refDiff_same (A B : Option Addr) (xs ys : List Bool) (n c d : Nat) (hx : xs.length = n) (hy : ys.length = n) (hl : n ≤ 1000000) (w : World) (hr : Rd w A xs) (hs : Rd w B ys) :
    Calls Try.prog 20 #[.slice A n c, .slice B n d] w (DiffPost xs ys w) := by
  obtain ⟨i0, hi, hz0, hz1, hz2⟩ := info_parts info3
  have HR := Lib.hid hr
  have HS := Lib.hid hs
  have HX := Lib.hid hx
  have HY := Lib.hid hy
  clear hr hs hx hy
  go_enter Try.func20, Try.ntmps20
  go_wp2
  go_loopw [6, 7] (fun v i wr => ∃ k : Nat, k ≤ n ∧ i = .int .i64 k ∧ wr.ownsRow w.heap.size 3 1 v (difK xs ys k).length (ints (difK xs ys k)) ∧ Nx w wr) (fun _ i _ => n - (intOf i).toNat)
  case atStart => exact ⟨0, Nat.zero_le _, rfl, World.ownsRow_nil _ _ _ _, Nx.refl _⟩
  case round =>
    obtain ⟨k, hk, rfl, hown, hnx⟩ := hrel
    have HN := Lib.hid hnx
    have HO := Lib.hid hown
    by_cases hlt : k < n
    · obtain ⟨a, ha⟩ := at_some xs k (by rw [HX.out]; exact hlt)
      obtain ⟨b, hb⟩ := at_some ys k (by rw [HY.out]; exact hlt)
      obtain ⟨ad, rfl, hc⟩ := (HR.out.nx hnx) k a ha
      obtain ⟨bd, rfl, hd⟩ := (HS.out.nx hnx) k b hb
      have HA := Lib.hid ha
      have HB := Lib.hid hb
      clear ha hb hnx hown
      by_cases he : a = b
      · subst he
        have HK := Lib.hid (difK_eq HA.out HB.out)
        have e1 : (a == a) = true := by simp
        have e2 : (a != a) = false := by simp
        go_wp2
        go_quiet (fail)
        go_wp2
        go_roundw
        case rel => exact ⟨k + 1, by omega, by go_num, by rw [HK.out]; exact HO.out, by first | exact HN.out | exact HN.out.drewN _⟩
        case measure => simp [intOf]; omega
      · have e1 : (a == b) = false := by simpa using he
        have e2 : (a != b) = true := by simpa using he
        have HK := Lib.hid (difK_ne HA.out HB.out he)
        have hle := difK_le xs ys k
        clear he
        go_wp2
        go_quiet (fail)
        go_wp2_with (at_builtin; refine wpList_append_own _ rfl (.tmp 28) (.tmp 30) 37 rfl w.heap.size 3 i0 (.int .i64 0) 1 8 Try.underlying37 hi hz0 hz1 hz2 rfl (by decide) _ _ _ rfl (World.ownsRow.alloc (own_drewN HO.out _) _) ⟨_, 0, none⟩ 1 1 [.int .i64 (k : Int)] rfl rfl (new_one _ _ _) (by intro u hu; simp at hu; subst hu; rfl) (by unfold maxLen; omega) (by omega) (by have := HN.out.size; simp; omega) ?_; intro v' w1 hown' hgrow _; have HO1 := Lib.hid hown'; have HG := Lib.hid hgrow; clear hown' hgrow)
        go_roundw
        case rel => exact ⟨k + 1, by omega, by go_num, by rw [HK.out, ints_snoc, List.length_append]; exact HO1.out, grown_nx ((HN.out.drewN _).alloc _) HG.out (World.ownsRow.alloc (own_drewN HO.out _) _) (Nat.le_refl _)⟩
        case measure => simp [intOf]; omega
    · have hkn : k = n := by omega
      have HE := Lib.hid (diffPost_of (hkn.trans HX.out.symm) hown hnx)
      clear hnx hkn hown
      go_wp2
      go_ret2
      exact HE.out

/-- What Diff answers: where the lengths differ, code 2; else the places. -/
def DiffAny (xs ys : List Bool) (w : World) (e : Ending) (w' : World) : Prop :=
  (xs.length ≠ ys.length ∧ e = .returned (.tuple #[.slice none 0 0, .int .i64 2]) ∧ Nx w w') ∨ (xs.length = ys.length ∧ DiffPost xs ys w e w')
theorem diff_any (A B : Option Addr) (xs ys : List Bool) (m n c d : Nat) (hx : xs.length = m) (hy : ys.length = n) (hl : m ≤ 1000000) (w : World) (hr : Rd w A xs) (hs : Rd w B ys) :
    Calls Try.prog 19 #[.slice A m c, .slice B n d] w (DiffAny xs ys w) := by
  by_cases h : m = n
  · subst h; exact (diff_same A B xs ys m c d hx hy hl w hr hs).mono fun e w' h => Or.inr ⟨hx.trans hy.symm, h⟩
  · exact (diff_len A B m n c d h w).mono fun e w' ⟨he, hw⟩ => Or.inl ⟨by rw [hx, hy]; exact h, he, hw ▸ Nx.refl _⟩
theorem refDiff_any (A B : Option Addr) (xs ys : List Bool) (m n c d : Nat) (hx : xs.length = m) (hy : ys.length = n) (hl : m ≤ 1000000) (w : World) (hr : Rd w A xs) (hs : Rd w B ys) :
    Calls Try.prog 20 #[.slice A m c, .slice B n d] w (DiffAny xs ys w) := by
  by_cases h : m = n
  · subst h; exact (refDiff_same A B xs ys m c d hx hy hl w hr hs).mono fun e w' h => Or.inr ⟨hx.trans hy.symm, h⟩
  · exact (refDiff_len A B m n c d h w).mono fun e w' ⟨he, hw⟩ => Or.inl ⟨by rw [hx, hy]; exact h, he, hw ▸ Nx.refl _⟩
end Go.Proofs.Ytndoadkkcmaocaa
