/- The words for images in memory, and what isIndex, digit, Get and Count return. What image.Format and the reference's Format return. What image.Equal and the reference's Equal return. What image.Diff and the reference's Diff return. What image.Set and the reference's Set return. What CheckSize, CheckAddr, Width, Compare and the reference's Compare return. Words for images and boxes in memory. No condition. What the small functions of package state return: imagesOf, stateOf, sizesOf, indexOf, copyOf. A rule for a region whose operations come in any order: what each operation yields is said once, and holds whatever comes beside. append of an image onto a new empty slice, as one operation of a region. The rule for a region in any order, where what an operation yields is said beside what it waited for has yielded. The rule of R2, where operations may be guarded. Conditions: as each theorem states them. -/
import Derived.Test.YtdpccnpaajhliaaProg
import Derived.WalkKit
import Derived.WalkSpells
import Derived.WalkLawsBesides
import Derived.BigFrame
import Derived.Lib.Hide
import Derived.Handy
import Derived.Deep.OwnRows
import Derived.Laws.IdiomStrings
import Derived.Deep.QuietTactic
import Derived.BigQuiet
import Derived.Laws.CopyOwn
import Derived.Deep.AppendLies
import Derived.Deep.RegionHeld3
import Derived.IntWalk
import Derived.Orders
import Derived.RegionTactic
import Derived.ArgAppend
import Derived.Laws.OwnMore
import Derived.Laws.AppendOwnNone
namespace Go.Proofs.Ytdpccnpaajhliaa
section
open Go.RowKit

/-- Nothing that was there has turned: new blocks and draws alone. -/
def Nx (w w' : World) : Prop := Below w.heap.size w w'
theorem Nx.refl (w : World) : Nx w w := Below.refl _ _
theorem Nx.trans {a b c : World} (h : Nx a b) (k : Nx b c) : Nx a c := Below.trans h (Below.mono k h.size)
theorem Nx.alloc {a b : World} (h : Nx a b) (o : Obj) : Nx a (b.alloc o) := Below.alloc h h.size o
theorem Nx.drew {a b : World} (h : Nx a b) : Nx a b.drew := Below.drew h
theorem Nx.drewN {a b : World} (h : Nx a b) (n : Nat) : Nx a (b.drewN n) := Below.trans h ⟨rfl, rfl, rfl, Nat.le_refl _, fun _ _ => rfl⟩
theorem Nx.cell {w w' : World} (h : Nx w w') {p : Addr} {v : Value} (hc : w.cell? p = some v) : w'.cell? p = some v :=
  (Below.cell h (World.block_lt_of_cell? w p hc)).trans hc
theorem Nx.one (w : World) (o : Obj) : Nx w (w.alloc o) := (Nx.refl w).alloc o
theorem Nx.setCell {a b : World} (h : Nx a b) {p : Addr} (hp : a.heap.size ≤ p.block) (u : Value) : Nx a (b.setCell p u) := Below.setCell h hp u

/-- The cells of a slice read as the list xs of bools. -/
def Rd (w : World) (A : Option Addr) (xs : List Bool) : Prop := ∀ (k : Nat) (b : Bool), xs[k]? = some b → ∃ ad, A = some ad ∧ w.cell? (ad.add k) = some (.bool b)
theorem Rd.nx {w w' : World} {A : Option Addr} {xs : List Bool} (h : Rd w A xs) (k : Nx w w') : Rd w' A xs := fun i b hi => by
  obtain ⟨ad, e, hc⟩ := h i b hi
  exact ⟨ad, e, k.cell hc⟩
theorem Rd.drew {w : World} {A : Option Addr} {xs : List Bool} (h : Rd w A xs) : Rd w.drew A xs := h
theorem at_some (xs : List Bool) (k : Nat) (h : k < xs.length) : ∃ b, xs[k]? = some b := ⟨xs[k], List.getElem?_eq_getElem h⟩
theorem ret_bool {a b : Bool} (h : a = b) : Ending.returned (.bool a) = .returned (.bool b) := by rw [h]
theorem ret_int {k : IntKind} {a b : Int} (h : a = b) : Ending.returned (.int k a) = .returned (.int k b) := by rw [h]

def isIdx (n : Int) (m : Nat) : Bool := decide (0 ≤ n ∧ n < m)
set_option maxHeartbeats 400000 in
theorem isIndex_any (A : Option Addr) (m c : Nat) (n : Int) (w : World) :
    Calls Try.prog 61 #[.slice A m c, .int .i64 n] w fun e w' => e = .returned (.bool (isIdx n m)) ∧ w = w' := by
  by_cases h0 : 0 ≤ n
  · by_cases h1 : n < m
    · have HR := Lib.hid (show isIdx n m = true from decide_eq_true ⟨h0, h1⟩)
      go_enter Try.func61, Try.ntmps61
      go_wp2
      go_ret
      exact ⟨ret_bool HR.out.symm, rfl⟩
    · have HR := Lib.hid (show isIdx n m = false from decide_eq_false (by omega))
      go_enter Try.func61, Try.ntmps61
      go_wp2
      go_ret
      exact ⟨ret_bool HR.out.symm, rfl⟩
  · have HR := Lib.hid (show isIdx n m = false from decide_eq_false (by omega))
    go_enter Try.func61, Try.ntmps61
    go_wp2
    go_ret
    exact ⟨ret_bool HR.out.symm, rfl⟩

def dig (b : Bool) : Int := if b then 49 else 48
set_option maxHeartbeats 400000 in
theorem digit_any (b : Bool) (w : World) : Calls Try.prog 25 #[.bool b] w fun e w' => e = .returned (.int .u8 (dig b)) ∧ w = w' := by
  cases b
  all_goals
    go_enter Try.func25, Try.ntmps25
    go_wp2
    go_ret
    exact ⟨rfl, rfl⟩

set_option maxHeartbeats 400000 in
theorem get_ok (A : Option Addr) (xs : List Bool) (c n : Nat) (b : Bool) (hb : xs[n]? = some b) (w : World) (hr : Rd w A xs) :
    Calls Try.prog 59 #[.slice A xs.length c, .int .i64 n] w fun e w' => e = .returned (.tuple #[.bool b, .int .i64 0]) ∧ w = w' := by
  have hn : n < xs.length := (List.getElem?_eq_some_iff.1 hb).1
  obtain ⟨ad, rfl, hc⟩ := hr n b hb
  have HI := Lib.hid (show isIdx (n : Int) xs.length = true from decide_eq_true (by omega))
  clear hr hb
  go_enter Try.func59, Try.ntmps59
  go_wp2_with (go_at_call 61; refine (isIndex_any _ _ _ _ _).mono ?_; rw [HI.out]; rintro e w' ⟨rfl, rfl⟩)
  go_ret2
  exact ⟨rfl, rfl⟩
set_option maxHeartbeats 400000 in
theorem get_no (A : Option Addr) (m c : Nat) (n : Int) (h : ¬ (0 ≤ n ∧ n < m)) (w : World) :
    Calls Try.prog 59 #[.slice A m c, .int .i64 n] w fun e w' => e = .returned (.tuple #[.bool false, .int .i64 3]) ∧ w = w' := by
  have HI := Lib.hid (show isIdx n m = false from decide_eq_false h)
  clear h
  go_enter Try.func59, Try.ntmps59
  go_wp2_with (go_at_call 61; refine (isIndex_any _ _ _ _ _).mono ?_; rw [HI.out]; rintro e w' ⟨rfl, rfl⟩)
  go_ret2
  exact ⟨rfl, rfl⟩

/-- How many bits are true. -/
def cnt (xs : List Bool) : Nat := xs.countP id
theorem cnt_le (xs : List Bool) : cnt xs ≤ xs.length := List.countP_le_length
theorem take_snoc {α : Type} (xs : List α) (k : Nat) (b : α) (h : xs[k]? = some b) : xs.take (k + 1) = xs.take k ++ [b] := by
  rw [List.take_add_one, h]; rfl
theorem cnt_snoc (xs : List Bool) (b : Bool) : cnt (xs ++ [b]) = cnt xs + (if b then 1 else 0) := by
  unfold cnt; rw [List.countP_append]; cases b <;> rfl
end
section
open Go.RowKit

theorem info5 : (Try.prog.info? 5).map (fun i => (i.zero, i.size, i.bytes)) = some (some (.int .u8 0), 1, 1) := by kernel_rfl
theorem info4 : (Try.prog.info? 4).map (fun i => (i.zero, i.size, i.bytes)) = some (some (.bool false), 1, 1) := by kernel_rfl
theorem info3 : (Try.prog.info? 3).map (fun i => (i.zero, i.size, i.bytes)) = some (some (.int .i64 0), 1, 8) := by kernel_rfl

def dg (b : Bool) : UInt8 := if b then 49 else 48
theorem dig_dg (b : Bool) : dig b = ((dg b).toNat : Int) := by cases b <;> rfl
/-- The text of an image. -/
def tx (xs : List Bool) : ByteArray := ⟨(xs.map dg).toArray⟩
def txt (xs : List Bool) : ByteArray := if xs.isEmpty then ⟨#[45]⟩ else tx xs
theorem txt_nil {xs : List Bool} (h : xs.length = 0) : txt xs = ⟨#[45]⟩ := by
  obtain rfl := List.eq_nil_of_length_eq_zero h; rfl
theorem txt_pos {xs : List Bool} (h : 0 < xs.length) : txt xs = tx xs := by
  cases xs with
  | nil => simp at h
  | cons a l => rfl
theorem getD_some {xs : List Bool} {k : Nat} {b : Bool} (h : xs[k]? = some b) : xs.getD k false = b := by simp [List.getD, h]

def row (xs : List Bool) (k : Nat) : Nat → Value := fun j => .int .u8 (if j < k then dig (xs.getD j false) else 0)
theorem row_step (xs : List Bool) (k n : Nat) (b : Bool) (hb : xs[k]? = some b) (j : Nat) (_ : j < n) : (if j = k then Value.int .u8 (dig b) else row xs k j) = row xs (k + 1) j := by
  unfold row
  by_cases h : j = k
  · subst h; rw [if_pos rfl, if_pos (by omega), getD_some hb]
  · rw [if_neg h]
    by_cases h2 : j < k
    · rw [if_pos h2, if_pos (by omega)]
    · rw [if_neg h2, if_neg (by omega)]

theorem conv_row (xs : List Bool) (B : Nat) (wr : World) (h : wr.rowIs B 5 xs.length (fun j => .int .u8 (dig (xs.getD j false)))) :
    (convert 70 9 (.slice (some ⟨B, 0, none⟩) xs.length xs.length)).run Try.prog wr = .ok (.string (tx xs)) wr := by
  have e : (xs.map dg).length = xs.length := List.length_map _
  have := run_convert_bytes_back (P := Try.prog) wr 70 9 5 ⟨B, 0, none⟩ xs.length (xs.map dg) Try.underlying70 Try.underlying5 Try.underlying9 (fun j hj => by
    rw [e] at hj
    have := h.cell hj
    rw [Addr.add_lit]
    simp only [Nat.zero_add]
    rw [this]
    simp only [List.getElem_map, ← dig_dg]
    congr 3
    simp [List.getD, hj])
  rw [e] at this
  exact this

set_option maxHeartbeats 800000 in
theorem format_pos (A : Option Addr) (xs : List Bool) (c : Nat) (hp : 0 < xs.length) (hl : xs.length ≤ 1000000) (w : World) (hr : Rd w A xs) :
    Calls Try.prog 17 #[.slice A xs.length c] w fun e w' => e = .returned (.string (tx xs)) ∧ Nx w w' := by
  have HR := Lib.hid hr
  clear hr
  have hmk := run_make_row' (P := Try.prog) 70 5 (.int .u8 0) 1 Try.underlying70 info5 rfl .i64 .i64 xs.length (by omega) (by omega)
  have hz : ((xs.length : Int) == 0) = false := by rw [beq_eq_false_iff_ne]; omega
  go_enter Try.func17, Try.ntmps17
  go_wp2
  go_loopw [13] (fun i wr => ∃ k : Nat, k ≤ xs.length ∧ i = .int .i64 k ∧ wr.rowIs w.heap.size 5 xs.length (row xs k) ∧ Nx w wr) (fun i _ => xs.length - (intOf i).toNat)
  case atStart =>
    exact ⟨0, Nat.zero_le _, rfl, (World.rowIs_made w (.int .u8 0) xs.length 5).congr (fun i hi => by simp [row]), Nx.one _ _⟩
  case round =>
    obtain ⟨k, hk, rfl, hrow, hnx⟩ := hrel
    have HN := Lib.hid hnx
    have HW := Lib.hid hrow
    by_cases hlt : k < xs.length
    · obtain ⟨b, hb⟩ := at_some xs k hlt
      obtain ⟨ad, rfl, hc⟩ := (HR.out.nx hnx) k b hb
      have h1 := hrow.cell hlt
      have h2 := hrow.frozen k
      have HB := Lib.hid hb
      have HS := Lib.hid ((hrow.set k (.int .u8 (dig b))).congr (row_step xs k xs.length b hb))
      clear hb hrow hnx
      generalize hd : dig b = d at *
      have HD := Lib.hid hd
      clear hd
      go_wp2_with (go_at_call 25; refine (digit_any _ _).mono ?_; rw [HD.out]; rintro e w' ⟨rfl, rfl⟩)
      go_roundw
      case rel => exact ⟨k + 1, by omega, by go_num, HS.out, HN.out.setCell (Nat.le_refl _) _⟩
      case measure => simp [intOf]; omega
    · have hrow' : wr.rowIs w.heap.size 5 xs.length (fun j => .int .u8 (dig (xs.getD j false))) := hrow.congr (fun j hj => by unfold row; rw [if_pos (by omega)])
      have hcv := conv_row xs w.heap.size wr hrow'
      clear hrow hrow'
      go_wp2
      go_ret
      exact ⟨rfl, HN.out⟩
theorem format_nil (A : Option Addr) (c : Nat) (w : World) :
    Calls Try.prog 17 #[.slice A 0 c] w fun e w' => e = .returned (.string ⟨#[45]⟩) ∧ Nx w w' := by
  go_enter Try.func17, Try.ntmps17
  go_wp2
  go_ret
  exact ⟨rfl, Nx.refl _⟩
theorem format_any (A : Option Addr) (xs : List Bool) (c : Nat) (hl : xs.length ≤ 1000000) (w : World) (hr : Rd w A xs) :
    Calls Try.prog 17 #[.slice A xs.length c] w fun e w' => e = .returned (.string (txt xs)) ∧ Nx w w' := by
  by_cases h : xs.length = 0
  · rw [txt_nil h, h]; exact format_nil A c w
  · rw [txt_pos (by omega)]; exact format_pos A xs c (by omega) hl w hr

theorem tx_take (xs : List Bool) (k : Nat) (b : Bool) (hb : xs[k]? = some b) : tx (xs.take (k + 1)) = tx (xs.take k) ++ ⟨#[dg b]⟩ := by
  rw [take_snoc xs k b hb]
  unfold tx
  apply ByteArray.ext
  simp
theorem size_tx (xs : List Bool) : (tx xs).size = xs.length := by unfold tx; show ((xs.map dg).toArray).size = _; simp
theorem tx_toList (xs : List Bool) : (tx xs).toList = xs.map dg := by rw [ByteArray.toList_eq]; rfl
end
section
open Go.RowKit

def eqB (xs ys : List Bool) : Bool := decide (xs = ys)
theorem ne_at {xs ys : List Bool} {k : Nat} {a b : Bool} (ha : xs[k]? = some a) (hb : ys[k]? = some b) (h : a ≠ b) : eqB xs ys = false := by
  refine decide_eq_false fun e => h ?_
  rw [e, hb] at ha; exact (Option.some.inj ha).symm
theorem eq_of_take {xs ys : List Bool} (hl : xs.length = ys.length) (h : xs.take xs.length = ys.take xs.length) : eqB xs ys = true := by
  rw [List.take_length, hl, List.take_length] at h
  exact decide_eq_true h

set_option maxHeartbeats 800000 in
theorem refEqual_len (A B : Option Addr) (m n c d : Nat) (h : m ≠ n) (w : World) :
    Calls Try.prog 15 #[.slice A m c, .slice B n d] w fun e w' => e = .returned (.bool false) ∧ w = w' := by
  have h1 : ((m : Int) == n) = false := by rw [beq_eq_false_iff_ne]; omega
  have h2 : ((m : Int) != n) = true := by rw [bne_iff_ne]; omega
  go_enter Try.func15, Try.ntmps15
  go_wp2
  go_ret
  exact ⟨rfl, rfl⟩

set_option maxHeartbeats 800000 in
theorem refEqual_same (A B : Option Addr) (xs ys : List Bool) (n c d : Nat) (hx : xs.length = n) (hy : ys.length = n) (hl : n ≤ 1000000) (w : World) (hr : Rd w A xs) (hs : Rd w B ys) :
    Calls Try.prog 15 #[.slice A n c, .slice B n d] w fun e w' => e = .returned (.bool (eqB xs ys)) ∧ Nx w w' := by
  have HR := Lib.hid hr
  have HS := Lib.hid hs
  have HX := Lib.hid hx
  have HY := Lib.hid hy
  clear hr hs hx hy
  go_enter Try.func15, Try.ntmps15
  go_wp2
  go_loopw [5] (fun i wr => ∃ k : Nat, k ≤ n ∧ i = .int .i64 k ∧ xs.take k = ys.take k ∧ Nx w wr) (fun i _ => n - (intOf i).toNat)
  case atStart => exact ⟨0, Nat.zero_le _, rfl, rfl, Nx.refl _⟩
  case round =>
    obtain ⟨k, hk, rfl, htk, hnx⟩ := hrel
    have HT := Lib.hid htk
    have HN := Lib.hid hnx
    by_cases hlt : k < n
    · obtain ⟨a, ha⟩ := at_some xs k (by rw [HX.out]; exact hlt)
      obtain ⟨b, hb⟩ := at_some ys k (by rw [HY.out]; exact hlt)
      obtain ⟨ad, rfl, hc⟩ := (HR.out.nx hnx) k a ha
      obtain ⟨bd, rfl, hd⟩ := (HS.out.nx hnx) k b hb
      have HA := Lib.hid ha
      have HB := Lib.hid hb
      clear ha hb htk hnx
      by_cases he : a = b
      · subst he
        have HK := Lib.hid (show xs.take (k + 1) = ys.take (k + 1) by rw [take_snoc xs k a HA.out, take_snoc ys k a HB.out, HT.out])
        have e1 : (a == a) = true := by simp
        have e2 : (a != a) = false := by simp
        go_wp2
        go_quiet (fail)
        go_wp2
        go_roundw
        case rel => exact ⟨k + 1, by omega, by go_num, HK.out, by first | exact HN.out | exact HN.out.drewN _⟩
        case measure => simp [intOf]; omega
      · have e1 : (a == b) = false := by simpa using he
        have e2 : (a != b) = true := by simpa using he
        have HQ := Lib.hid (ne_at HA.out HB.out he)
        clear he
        go_wp2
        go_quiet (fail)
        go_wp2
        go_ret
        exact ⟨ret_bool HQ.out.symm, by first | exact HN.out | exact HN.out.drewN _⟩
    · have hkn : k = n := by omega
      have HQ := Lib.hid (eq_of_take (xs := xs) (ys := ys) (by rw [HX.out, HY.out]) (by rw [HX.out, ← hkn]; exact htk))
      clear htk hnx hkn
      go_wp2
      go_ret
      exact ⟨ret_bool HQ.out.symm, HN.out⟩
theorem eqB_len {xs ys : List Bool} (h : xs.length ≠ ys.length) : eqB xs ys = false := decide_eq_false fun e => h (by rw [e])
theorem refEqual_any (A B : Option Addr) (xs ys : List Bool) (m n c d : Nat) (hx : xs.length = m) (hy : ys.length = n) (hl : m ≤ 1000000) (w : World) (hr : Rd w A xs) (hs : Rd w B ys) :
    Calls Try.prog 15 #[.slice A m c, .slice B n d] w fun e w' => e = .returned (.bool (eqB xs ys)) ∧ Nx w w' := by
  by_cases h : m = n
  · subst h; exact refEqual_same A B xs ys m c d hx hy hl w hr hs
  · rw [eqB_len (by rw [hx, hy]; exact h)]
    exact (refEqual_len A B m n c d h w).mono fun e w' ⟨he, hw⟩ => ⟨he, hw ▸ Nx.refl _⟩
end
section
open Go.RowKit

/-- The cells of a slice read as the list of the numbers xs. -/
def RdI (w : World) (A : Option Addr) (xs : List Nat) : Prop := ∀ (k n : Nat), xs[k]? = some n → ∃ ad, A = some ad ∧ w.cell? (ad.add k) = some (.int .i64 n)
theorem RdI.nx {w w' : World} {A : Option Addr} {xs : List Nat} (h : RdI w A xs) (k : Nx w w') : RdI w' A xs := fun i b hi => by
  obtain ⟨ad, e, hc⟩ := h i b hi
  exact ⟨ad, e, k.cell hc⟩
def ints (xs : List Nat) : List Value := xs.map fun (n : Nat) => Value.int .i64 (n : Int)
theorem ints_snoc (xs : List Nat) (n : Nat) : ints (xs ++ [n]) = ints xs ++ [.int .i64 (n : Int)] := by simp [ints]
def bools (xs : List Bool) : List Value := xs.map Value.bool
theorem bools_snoc (xs : List Bool) (b : Bool) : bools (xs ++ [b]) = bools xs ++ [.bool b] := by simp [bools]
theorem bools_one (xs : List Bool) : ∀ u ∈ bools xs, u.oneCell' = true := by
  intro u hu; obtain ⟨b, _, rfl⟩ := List.mem_map.1 hu; rfl

theorem own_drewN {w : World} {base : Nat} {e : TypeId} {size n : Nat} {v : Value} {xs : List Value} (h : w.ownsRow base e size v n xs) (k : Nat) : (w.drewN k).ownsRow base e size v n xs := h
/-- What is owned is a slice. -/
theorem own_form {w : World} {base : Nat} {e : TypeId} {v : Value} {n : Nat} {xs : List Value} (h : w.ownsRow base e 1 v n xs) :
    ∃ A c, v = .slice A n c ∧ ∀ (k : Nat) (u : Value), xs[k]? = some u → ∃ ad, A = some ad ∧ w.cell? (ad.add k) = some u := by
  rcases h.2 with ⟨rfl, rfl⟩ | ⟨g, cap, cur, rfl, h1, h2, h3, h4, h5, h6⟩
  · have hx : xs = [] := List.eq_nil_of_length_eq_zero (by simpa using h.1)
    subst hx
    exact ⟨none, 0, rfl, fun k u hu => by simp at hu⟩
  · exact ⟨some ⟨g, 0, none⟩, cap, rfl, fun k u hu => ⟨_, rfl, h.cells (g := g) rfl k u hu⟩⟩
theorem own_ints {w : World} {base : Nat} {v : Value} {n : Nat} {xs : List Nat} (h : w.ownsRow base 3 1 v n (ints xs)) :
    ∃ A c, v = .slice A xs.length c ∧ RdI w A xs := by
  obtain ⟨A, c, rfl, hc⟩ := own_form h
  have hn : n = xs.length := by have := h.1; simpa [ints] using this.symm
  subst hn
  exact ⟨A, c, rfl, fun k n hk => hc k _ (by simp [ints, hk])⟩
theorem own_bools {w : World} {base : Nat} {v : Value} {n : Nat} {xs : List Bool} (h : w.ownsRow base 4 1 v n (bools xs)) :
    ∃ A c, v = .slice A xs.length c ∧ Rd w A xs := by
  obtain ⟨A, c, rfl, hc⟩ := own_form h
  have hn : n = xs.length := by have := h.1; simpa [bools] using this.symm
  subst hn
  exact ⟨A, c, rfl, fun k n hk => hc k _ (by simp [bools, hk])⟩
/-- The one cell of a literal of one element. -/
theorem new_one (w : World) (u : Value) (t : TypeId) : ∀ j v, [u][j]? = some v → (w.alloc (.cells #[u] t)).cell? ((⟨w.heap.size, 0, none⟩ : Addr).add j) = some v := by
  intro j v hj
  match j, hj with
  | 0, hj => simp at hj; subst hj; simp [Addr.add]

/-- The places at which two lists differ. -/
def difK (xs ys : List Bool) (k : Nat) : List Nat := (List.range k).filter fun i => xs.getD i false != ys.getD i false
def dif (xs ys : List Bool) : List Nat := difK xs ys xs.length
theorem difK_le (xs ys : List Bool) (k : Nat) : (difK xs ys k).length ≤ k := by
  unfold difK; have := List.length_filter_le (fun i => xs.getD i false != ys.getD i false) (List.range k); simpa using this
theorem difK_eq {xs ys : List Bool} {k : Nat} {a : Bool} (ha : xs[k]? = some a) (hb : ys[k]? = some a) : difK xs ys (k + 1) = difK xs ys k := by
  unfold difK; rw [List.range_succ, List.filter_append]; simp [ha, hb]
theorem difK_ne {xs ys : List Bool} {k : Nat} {a b : Bool} (ha : xs[k]? = some a) (hb : ys[k]? = some b) (h : a ≠ b) : difK xs ys (k + 1) = difK xs ys k ++ [k] := by
  unfold difK; rw [List.range_succ, List.filter_append]; simp [ha, hb, h]

theorem grown_nx {w0 w w' : World} {v : Value} (h : Nx w0 w) (hg : w.grownBy w' v.ownBlock) {base : Nat} {e : TypeId} {size n : Nat} {xs : List Value} (hown : w.ownsRow base e size v n xs) (hb : w0.heap.size ≤ base) : Nx w0 w' :=
  Below.grown h hg h.size fun k hk => Nat.le_trans hb (hown.lt k hk).1

def DiffPost (xs ys : List Bool) (w : World) (e : Ending) (w' : World) : Prop :=
  ∃ A c, e = .returned (.tuple #[.slice A (dif xs ys).length c, .int .i64 0]) ∧ RdI w' A (dif xs ys) ∧ Nx w w'
theorem diffPost_of {xs ys : List Bool} {w w' : World} {v : Value} {n k : Nat} (hk : k = xs.length) (hown : w'.ownsRow w.heap.size 3 1 v n (ints (difK xs ys k))) (hnx : Nx w w') :
    DiffPost xs ys w (.returned (.tuple #[v, .int .i64 0])) w' := by
  subst hk
  obtain ⟨A, c, rfl, hr⟩ := own_ints hown
  exact ⟨A, c, rfl, hr, hnx⟩

/-- What Diff answers: where the lengths differ, code 2; else the places. -/
def DiffAny (xs ys : List Bool) (w : World) (e : Ending) (w' : World) : Prop :=
  (xs.length ≠ ys.length ∧ e = .returned (.tuple #[.slice none 0 0, .int .i64 2]) ∧ Nx w w') ∨ (xs.length = ys.length ∧ DiffPost xs ys w e w')
end
section
open Go.RowKit

theorem set_no (A : Option Addr) (m c : Nat) (n : Int) (v : Bool) (h : ¬ (0 ≤ n ∧ n < m)) (w : World) :
    Calls Try.prog 63 #[.slice A m c, .int .i64 n, .bool v] w fun e w' => e = .returned (.tuple #[.slice none 0 0, .int .i64 3]) ∧ w = w' := by
  have HI := Lib.hid (show isIdx n m = false from decide_eq_false h)
  clear h
  go_enter Try.func63, Try.ntmps63
  go_wp2_with (go_at_call 61; refine (isIndex_any _ _ _ _ _).mono ?_; rw [HI.out]; rintro e w' ⟨rfl, rfl⟩)
  go_ret2
  exact ⟨rfl, rfl⟩

/-- An own row of bools. -/
def OwB (w : World) (base g c : Nat) (xs : List Bool) : Prop := w.ownsRow base 4 1 (.slice (some ⟨g, 0, none⟩) xs.length c) xs.length (bools xs)
theorem OwB.rd {w : World} {base g c : Nat} {xs : List Bool} (h : OwB w base g c xs) : Rd w (some ⟨g, 0, none⟩) xs := fun k b hk =>
  ⟨_, rfl, (World.ownsRow.cells h (g := g) rfl) k _ (by simp [bools, hk])⟩
theorem OwB.cell {w : World} {base g c : Nat} {xs : List Bool} (h : OwB w base g c xs) {k : Nat} {b : Bool} (hk : xs[k]? = some b) : w.cell? ⟨g, k, none⟩ = some (.bool b) := by
  have hlt : k < xs.length := (List.getElem?_eq_some_iff.1 hk).1
  rw [World.ownsRow.cellAt h k (by omega)]; simp [bools, hk]
theorem OwB.frozen {w : World} {base g c : Nat} {xs : List Bool} (h : OwB w base g c xs) (k : Nat) : w.frozen? ⟨g, k, none⟩ = false := World.ownsRow.frozenAt h k
theorem OwB.set {w : World} {base g c : Nat} {xs : List Bool} (h : OwB w base g c xs) (k : Nat) (b : Bool) : OwB (w.setCell ⟨g, k, none⟩ (.bool b)) base g c (xs.set k b) := by
  have := (World.ownsRow.stored h k (.bool b)).1
  unfold OwB
  rw [List.length_set, show bools (xs.set k b) = (bools xs).set k (.bool b) by simp [bools, List.map_set]]
  exact this
theorem OwB.base_le {w : World} {base g c : Nat} {xs : List Bool} (h : OwB w base g c xs) : base ≤ g := (World.ownsRow.lt h g rfl).1
theorem OwB.nx {w w' : World} {base g c : Nat} {xs : List Bool} (h : OwB w base g c xs) (k : Nx w w') : OwB w' base g c xs :=
  World.ownsRow.kept h (row := none) ⟨k.os, k.tape, k.output, k.size, fun i hi _ => k.block i hi⟩ (Or.inr (by simp [Value.ownBlock]))

def SetPost (xs : List Bool) (w : World) (e : Ending) (w' : World) : Prop :=
  ∃ g c, e = .returned (.tuple #[.slice (some ⟨g, 0, none⟩) xs.length c, .int .i64 0]) ∧ OwB w' w.heap.size g c xs ∧ Nx w w'

theorem bools_length (xs : List Bool) : (bools xs).length = xs.length := by simp [bools]
theorem own_of_block {w : World} {g base m : Nat} {xs : List Bool} (hm : xs.length = m) (hb : base ≤ g) (h : w.heap[g]? = some (.cells (bools xs).toArray 4 (0, 0))) (hl : m ≤ 1000000) : OwB w base g m xs := by
  subst hm
  refine ⟨by simp [bools], .inr ⟨g, xs.length, (bools xs).toArray, rfl, hb, h, Nat.le_refl _, by unfold maxLen; omega, by simp [bools], by simp [bools, List.take_of_length_le]⟩⟩
theorem splice_all (m : Nat) (xs : List Bool) (h : xs.length = m) : splice (List.replicate m (Value.bool false)) 0 (bools xs) = bools xs := by
  unfold splice; simp [bools, h]

set_option maxHeartbeats 1600000 in
theorem set_ok (A : Option Addr) (xs : List Bool) (m c n : Nat) (v : Bool) (hx : xs.length = m) (hn : n < m) (hl : m ≤ 1000000) (w : World) (hr : Rd w A xs) :
    Calls Try.prog 63 #[.slice A m c, .int .i64 n, .bool v] w (SetPost (xs.set n v) w) := by
  have HI := Lib.hid (show isIdx (n : Int) m = true from decide_eq_true (by omega))
  have hmk := run_make_row' (P := Try.prog) 22 4 (.bool false) 1 Try.underlying22 info4 rfl .i64 .i64 m (by omega) (by omega)
  have HR := Lib.hid hr
  have HX := Lib.hid hx
  obtain ⟨b, hb⟩ := at_some xs n (by rw [hx]; exact hn)
  obtain ⟨ad0, hA, _⟩ := hr n b hb
  subst hA
  have HB := Lib.hid hb
  have hsz : (Try.prog.info? 4).map (·.size) = some 1 := by kernel_rfl
  have HSZ := Lib.hid hsz
  have hsrc : ∀ j u, (bools xs)[j]? = some u → (w.alloc (.cells (madeCells #[.bool false] m) 4)).cell? (ad0.add j) = some u := by
    intro j u hj
    simp only [bools, List.getElem?_map, Option.map_eq_some_iff] at hj
    obtain ⟨x, hx1, rfl⟩ := hj
    obtain ⟨ad, e, hc⟩ := (hr.nx (Nx.one _ _)) j x hx1
    obtain rfl := Option.some.inj e
    exact hc
  have HSRC := Lib.hid hsrc
  have HBL := Lib.hid (show (w.alloc (.cells (madeCells #[.bool false] m) 4)).heap[w.heap.size]? = some (.cells (List.replicate m (Value.bool false)).toArray 4 (0, 0)) by
    rw [← toList_madeCells_one]; exact heap_alloc_new w _)
  clear hr hx hb hsz hsrc
  go_enter Try.func63, Try.ntmps63
  go_wp2_with (first
    | (go_at_call 61; refine (isIndex_any _ _ _ _ _).mono ?_; rw [HI.out]; rintro e w' ⟨rfl, rfl⟩)
    | (refine wpList_copy_splice rfl (.tmp 16) (.tmp 17) 22 22 rfl 4 Try.underlying22 HSZ.out (some ⟨w.heap.size, 0, none⟩) (some ad0) m m m c rfl rfl w.heap.size 0 (List.replicate m (Value.bool false)) 4 HBL.out (bools xs) (by rw [bools_length, HX.out]; simp) (fun _ => ⟨rfl, ad0, rfl, HSRC.out⟩) (by rw [bools_length, HX.out, List.length_replicate]; omega) (bools_one xs) w.heap.size w (Below.alloc (Below.refl _ _) (Nat.le_refl _) _) (Nat.le_refl _) ?_
       intro w2 hg2 hb2
       have HO := Lib.hid (own_of_block (base := w.heap.size) HX.out (Nat.le_refl _) (by have := hg2.out; rwa [splice_all m xs HX.out] at this) hl)
       have HN := Lib.hid (show Nx w w2 from hb2)
       have h1 := HO.out.cell HB.out
       have h2 := HO.out.frozen n
       clear hg2 hb2))
  go_ret2
  refine ⟨w.heap.size, m, ?_, HO.out.set n v, HN.out.setCell (Nat.le_refl _) _⟩
  rw [List.length_set, HX.out]
  rfl

def RefSetPost (xs : List Bool) (w : World) (e : Ending) (w' : World) : Prop :=
  ∃ g c, e = .returned (.slice (some ⟨g, 0, none⟩) xs.length c) ∧ OwB w' w.heap.size g c xs ∧ Nx w w'
theorem src_of {w : World} {ad0 : Addr} {xs : List Bool} (hr : Rd w (some ad0) xs) : ∀ j u, (bools xs)[j]? = some u → w.cell? (ad0.add j) = some u := by
  intro j u hj
  simp only [bools, List.getElem?_map, Option.map_eq_some_iff] at hj
  obtain ⟨x, hx1, rfl⟩ := hj
  obtain ⟨ad, e, hc⟩ := hr j x hx1
  obtain rfl := Option.some.inj e
  exact hc
theorem owB_form {w : World} {base n : Nat} {v : Value} {xs : List Bool} (h : w.ownsRow base 4 1 v n (bools xs)) (hn : 0 < xs.length) : ∃ g c, v = .slice (some ⟨g, 0, none⟩) xs.length c ∧ OwB w base g c xs := by
  have he : n = xs.length := by have := h.1; simpa [bools] using this.symm
  subst he
  obtain ⟨g, c, rfl, _⟩ := h.form hn
  exact ⟨g, c, rfl, h⟩
end
section
open Go.RowKit


def isSp (k : Int) : Bool := decide (0 ≤ k ∧ k < 3)
def inB (n most : Int) : Bool := decide (0 ≤ n ∧ n ≤ most)
theorem inB_yes {n most : Int} (h : 0 ≤ n ∧ n ≤ most) : inB n most = true := decide_eq_true h
theorem inB_no {n most : Int} (h : ¬ (0 ≤ n ∧ n ≤ most)) : inB n most = false := decide_eq_false h
/-- Are the sizes valid? -/
def sizeOK (i q m e : Int) : Prop := (0 ≤ i ∧ i ≤ 256) ∧ (0 ≤ q ∧ q ≤ 256) ∧ (0 ≤ m ∧ m ≤ 256) ∧ (0 ≤ e ∧ e ≤ 16384)
def csz (i q m e : Int) : Int := if inB i 256 && inB q 256 && inB m 256 && inB e 16384 then 0 else 3
/-- The width of a space. -/
def wid (i q m k : Int) : Int := if k = 0 then i else if k = 1 then q else if k = 2 then m else 0
/-- What CheckAddr answers. -/
def cad (i q m k n : Int) : Int := if isSp k then (if 0 ≤ n ∧ n < wid i q m k then 0 else 3) else 8
/-- cmp.Compare on ints. -/
def cmpI (a b : Int) : Int := if a < b then -1 else if b < a then 1 else 0
/-- Compare on addresses. -/
def cmpA (k n k' n' : Int) : Int := if cmpI k k' = 0 then cmpI n n' else cmpI k k'
theorem cmpA_lt {k n k' n' : Int} (h : k < k' ∨ k = k' ∧ n < n') : cmpA k n k' n' = -1 := by unfold cmpA cmpI; split <;> split <;> (try split) <;> (try split) <;> omega
theorem cmpA_eq {k n k' n' : Int} (h : k = k' ∧ n = n') : cmpA k n k' n' = 0 := by unfold cmpA cmpI; split <;> split <;> (try split) <;> (try split) <;> omega
theorem cmpA_gt {k n k' n' : Int} (h : k' < k ∨ k = k' ∧ n' < n) : cmpA k n k' n' = 1 := by unfold cmpA cmpI; split <;> split <;> (try split) <;> (try split) <;> omega
end
section
open Go.RowKit

/-- An image in memory: how its cells read, its length, and that nil has no capacity. -/
def Im (w : World) (A : Option Addr) (m c : Nat) (xs : List Bool) : Prop := Rd w A xs ∧ xs.length = m ∧ (A = none → c = 0)
theorem Im.nx {w w' : World} {A : Option Addr} {m c : Nat} {xs : List Bool} (h : Im w A m c xs) (k : Nx w w') : Im w' A m c xs := ⟨h.1.nx k, h.2⟩
theorem Nx.set {a b : World} (h : Nx a b) {g i : Nat} {o : Option Nat} (hp : a.heap.size ≤ g) (u : Value) : Nx a (b.setCell ⟨g, i, o⟩ u) := Below.setCell h hp u

/-- A block of cells, none of them frozen. -/
def Bx (w : World) (g : Nat) (T : TypeId) (vs : List Value) : Prop := w.heap[g]? = some (.cells vs.toArray T (0, 0))
theorem Bx.lt {w : World} {g : Nat} {T : TypeId} {vs : List Value} (h : Bx w g T vs) : g < w.heap.size := (Array.getElem?_eq_some_iff.1 h).1
theorem Bx.nx {w w' : World} {g : Nat} {T : TypeId} {vs : List Value} (h : Bx w g T vs) (k : Nx w w') : Bx w' g T vs := (k.block g h.lt).trans h
theorem Bx.cell {w : World} {g : Nat} {T : TypeId} {vs : List Value} (h : Bx w g T vs) (i : Nat) {v : Value} (hv : vs[i]? = some v) : w.cell? ⟨g, i, none⟩ = some v := by
  have e : w.heap[g]? = some (.cells vs.toArray T (0, 0)) := h
  simp [World.cell?, e, hv]
theorem bx_new (w : World) (T : TypeId) (vs : List Value) : Bx (w.alloc (.cells vs.toArray T)) w.heap.size T vs := heap_alloc_new w _
theorem Bx.far {w : World} {g b i : Nat} {o : Option Nat} {T : TypeId} {vs : List Value} (h : Bx w g T vs) (hne : g ≠ b) (v : Value) : Bx (w.setCell ⟨b, i, o⟩ v) g T vs := (Deep.blk_setCell_other w _ v g hne).trans h
theorem Bx.frozen {w : World} {g : Nat} {T : TypeId} {vs : List Value} (h : Bx w g T vs) (i : Nat) : w.frozen? ⟨g, i, none⟩ = false := by
  have e : w.heap[g]? = some (.cells vs.toArray T (0, 0)) := h
  simp [World.frozen?, e]
theorem Bx.put {w : World} {g : Nat} {T : TypeId} {vs : List Value} (h : Bx w g T vs) (i : Nat) (v : Value) : Bx (w.setCell ⟨g, i, none⟩ v) g T (vs.set i v) := by
  have e : w.heap[g]? = some (.cells vs.toArray T (0, 0)) := h
  unfold Bx
  simp [World.setCell, Array.getElem?_modify, e]
theorem OwB.far {w : World} {base g c b i : Nat} {o : Option Nat} {xs : List Bool} (h : OwB w base g c xs) (hne : g ≠ b) (v : Value) : OwB (w.setCell ⟨b, i, o⟩ v) base g c xs :=
  World.ownsRow.kept h (row := some b) ⟨rfl, rfl, rfl, by simp [World.setCell], fun k _ hk => Deep.blk_setCell_other w _ v k (fun e => hk (by rw [e]))⟩ (Or.inr (by simp [Value.ownBlock]; exact hne))
theorem OwB.low {w : World} {base base' g c : Nat} {xs : List Bool} (h : OwB w base g c xs) (hb : base' ≤ base) : OwB w base' g c xs := by
  obtain ⟨h1, h2⟩ := h
  refine ⟨h1, ?_⟩
  rcases h2 with hn | ⟨g', cap, cur, e, hg, rest⟩
  · exact .inl hn
  · exact .inr ⟨g', cap, cur, e, Nat.le_trans hb hg, rest⟩
theorem OwB.im {w : World} {base g c : Nat} {xs : List Bool} (h : OwB w base g c xs) {m : Nat} (hm : xs.length = m) : Im w (some ⟨g, 0, none⟩) m c xs := ⟨h.rd, hm, fun e => by cases e⟩
end
section
open Go.RowKit

set_option maxHeartbeats 400000 in
set_option maxRecDepth 100000 in
theorem imagesOf_any (A1 A2 A3 : Option Addr) (m1 m2 m3 c1 c2 c3 : Nat) (w : World) : Calls Try.prog 16 #[.agg #[.slice A1 m1 c1, .slice A2 m2 c2, .slice A3 m3 c3]] w fun e w' => e = .returned (.agg #[.slice A1 m1 c1, .slice A2 m2 c2, .slice A3 m3 c3]) ∧ Nx w w' := by
  go_enter Try.func16, Try.ntmps16
  go_wp2
  go_returns
  exact ⟨rfl, (by repeat (first | exact Nx.refl _ | assumption | refine Nx.drewN ?_ _ | refine Nx.drew ?_ | refine Nx.alloc ?_ _ | refine Nx.set ?_ (by first | exact Nat.le_refl _ | (simp; done) | (simp; omega)) _))⟩

set_option maxHeartbeats 400000 in
set_option maxRecDepth 100000 in
theorem stateOf_any (A1 A2 A3 : Option Addr) (m1 m2 m3 c1 c2 c3 : Nat) (w : World) : Calls Try.prog 30 #[.agg #[.slice A1 m1 c1, .slice A2 m2 c2, .slice A3 m3 c3]] w fun e w' => e = .returned (.agg #[.slice A1 m1 c1, .slice A2 m2 c2, .slice A3 m3 c3]) ∧ Nx w w' := by
  go_enter Try.func30, Try.ntmps30
  go_wp2
  go_returns
  exact ⟨rfl, (by repeat (first | exact Nx.refl _ | assumption | refine Nx.drewN ?_ _ | refine Nx.drew ?_ | refine Nx.alloc ?_ _ | refine Nx.set ?_ (by first | exact Nat.le_refl _ | (simp; done) | (simp; omega)) _))⟩

/-- The place of a space's image, and whether there is one. -/
def ixI (k : Int) : Int := if k = 2 then 1 else 0
def ixB (k : Int) : Bool := decide (k = 1 ∨ k = 2)
set_option maxHeartbeats 400000 in
theorem indexOf_any (k : Int) (w : World) : Calls Try.prog 62 #[.int .i64 k] w fun e w' => e = .returned (.tuple #[.int .i64 (ixI k), .bool (ixB k)]) ∧ w = w' := by
  by_cases h1 : k = 1
  · subst h1
    go_enter Try.func62, Try.ntmps62
    go_wp2
    go_ret2
    exact ⟨rfl, rfl⟩
  by_cases h2 : k = 2
  · subst h2
    go_enter Try.func62, Try.ntmps62
    go_wp2
    go_ret2
    exact ⟨rfl, rfl⟩
  have t1 : (k == 1) = false := by simpa using h1
  have t2 : (k == 2) = false := by simpa using h2
  have HI := Lib.hid (show ixI k = 0 from if_neg h2)
  have HB := Lib.hid (show ixB k = false from decide_eq_false (by omega))
  clear h1 h2
  go_enter Try.func62, Try.ntmps62
  go_wp2
  go_ret2
  exact ⟨by rw [HI.out, HB.out]; rfl, rfl⟩

theorem csz_yes {i q m e : Int} (h : sizeOK i q m e) : csz i q m e = 0 := by
  unfold csz; rw [inB_yes h.1, inB_yes h.2.1, inB_yes h.2.2.1, inB_yes h.2.2.2]; rfl
theorem csz_no {i q m e : Int} (h : ¬ sizeOK i q m e) : csz i q m e = 3 := by
  unfold csz
  rw [if_neg]
  intro h2
  simp only [Bool.and_eq_true, inB, decide_eq_true_eq] at h2
  exact h ⟨h2.1.1.1, h2.1.1.2, h2.1.2, h2.2⟩
set_option maxHeartbeats 1600000 in
theorem copyOf_ok (A : Option Addr) (xs : List Bool) (m c : Nat) (hx : xs.length = m) (hl : m ≤ 1000000) (w : World) (hr : Rd w A xs) :
    Calls Try.prog 29 #[.slice A m c] w fun e w' => ∃ g, e = .returned (.slice (some ⟨g, 0, none⟩) m m) ∧ OwB w' w.heap.size g m xs ∧ Nx w w' := by
  have hmk := run_make_row' (P := Try.prog) 22 4 (.bool false) 1 Try.underlying22 info4 rfl .i64 .i64 m (by omega) (by omega)
  have HX := Lib.hid hx
  have hsz : (Try.prog.info? 4).map (·.size) = some 1 := by kernel_rfl
  have HSZ := Lib.hid hsz
  have hsrc : 0 < (bools xs).length → ∃ ad0, A = some ad0 ∧ ∀ j u, (bools xs)[j]? = some u → (w.alloc (.cells (madeCells #[.bool false] m) 4)).cell? (ad0.add j) = some u := by
    intro hp
    obtain ⟨b, hb⟩ := at_some xs 0 (by rwa [bools_length] at hp)
    obtain ⟨ad0, rfl, _⟩ := hr 0 b hb
    exact ⟨ad0, rfl, src_of (hr.nx (Nx.one _ _))⟩
  have HSRC := Lib.hid hsrc
  have HBL := Lib.hid (show (w.alloc (.cells (madeCells #[.bool false] m) 4)).heap[w.heap.size]? = some (.cells (List.replicate m (Value.bool false)).toArray 4 (0, 0)) by
    rw [← toList_madeCells_one]; exact heap_alloc_new w _)
  clear hr hx hsz hsrc
  go_enter Try.func29, Try.ntmps29
  go_wp2_with (
    (refine wpList_copy_splice rfl (.tmp 7) (.tmp 8) 22 22 rfl 4 Try.underlying22 HSZ.out (some ⟨w.heap.size, 0, none⟩) A m m m c rfl rfl w.heap.size 0 (List.replicate m (Value.bool false)) 4 HBL.out (bools xs) (by rw [bools_length, HX.out]; simp) (fun hp => ⟨rfl, HSRC.out hp⟩) (by rw [bools_length, HX.out, List.length_replicate]; omega) (bools_one xs) w.heap.size w (Below.alloc (Below.refl _ _) (Nat.le_refl _) _) (Nat.le_refl _) ?_
     intro w2 hg2 hb2
     have HO := Lib.hid (own_of_block (base := w.heap.size) HX.out (Nat.le_refl _) (by have := hg2.out; rwa [splice_all m xs HX.out] at this) hl)
     have HN := Lib.hid (show Nx w w2 from hb2)
     clear hg2 hb2))
  go_ret
  exact ⟨w.heap.size, rfl, HO.out, HN.out⟩
end
section
open Go.RowKit

section
variable {P : Program} {ops : Array Oper} {Q : Exit → Act → World → Prop}

/-- Each operation waits for earlier ones alone, and none is guarded. -/
def backB (ops : Array Oper) : Bool := (List.range ops.size).all fun i => ((ops[i]?).map fun o => o.guard.isNone && o.after.all fun e => decide (e.on < i)).getD true
theorem back_spec (h : backB ops = true) {i : Nat} {o : Oper} (ho : ops[i]? = some o) : o.guard = none ∧ ∀ e ∈ o.after, e.on < i := by
  have hi : i < ops.size := (Array.getElem?_eq_some_iff.1 ho).1
  have := (List.all_eq_true.1 h) i (by simpa using hi)
  rw [ho] at this
  simp only [Option.map_some, Option.getD_some, Bool.and_eq_true, Option.isNone_iff_eq_none] at this
  refine ⟨this.1, fun e he => ?_⟩
  have h2 := this.2
  rw [Array.all_eq_true'] at h2
  exact of_decide_eq_true (h2 e he)

theorem ready_spec {listed : Array Bool} {i : Nat} (h : i ∈ Region.ready .any ops listed) : i < ops.size ∧ listed.getD i true = false ∧ ∀ o, ops[i]? = some o → ∀ e ∈ o.after, Region.binds .any e = true → listed.getD e.on false = true := by
  unfold Region.ready at h
  rw [List.mem_filter] at h
  obtain ⟨h1, h2⟩ := h
  have hi : i < ops.size := by simpa using h1
  simp only [Bool.and_eq_true, Bool.not_eq_true'] at h2
  refine ⟨hi, h2.1, fun o ho e he hb => ?_⟩
  have h3 := h2.2
  rw [ho] at h3
  simp only [Option.map_some, Option.getD_some] at h3
  rw [Array.all_eq_true'] at h3
  have h4 := h3 e he
  rw [hb] at h4
  simpa using h4
theorem ready_some {listed : Array Bool} {i : Nat} (hi : i < ops.size) (hl : listed.getD i true = false) (hd : ∀ o, ops[i]? = some o → ∀ e ∈ o.after, listed.getD e.on false = true) : i ∈ Region.ready .any ops listed := by
  unfold Region.ready
  rw [List.mem_filter]
  refine ⟨by simpa using hi, ?_⟩
  obtain ⟨o, ho⟩ : ∃ o, ops[i]? = some o := ⟨ops[i], Array.getElem?_eq_getElem hi⟩
  simp only [hl, ho, Bool.not_false, Bool.true_and, Option.map_some, Option.getD_some]
  rw [Array.all_eq_true']
  intro e he
  rw [hd o ho e he, Bool.or_true]
theorem getD_flip {listed : Array Bool} {i : Nat} (hi : i < listed.size) : listed.getD i true = listed.getD i false := by
  simp [Array.getD, hi]
/-- Where nothing is ready, all has been. -/
theorem all_listed (hb : backB ops = true) {listed : Array Bool} (hs : listed.size = ops.size) (h : Region.ready .any ops listed = []) : ∀ i, i < ops.size → listed.getD i false = true := by
  intro i
  induction i using Nat.strongRecOn with
  | _ i ih =>
    intro hi
    cases hl : listed.getD i false with
    | true => rfl
    | false =>
      have : i ∈ Region.ready .any ops listed := ready_some hi (by rw [getD_flip (by omega)]; exact hl) (fun o ho e he => by
        have hlt := (back_spec hb ho).2 e he
        exact ih e.on hlt (by omega))
      rw [h] at this
      cases this

theorem getD_set_ne {listed : Array Bool} {i j : Nat} (h : i ≠ j) : (listed.setIfInBounds i true).getD j false = listed.getD j false := by
  simp [Array.getD_eq_getD_getElem?, h]
def lft (listed : Array Bool) : Nat := listed.toList.countP (fun b => !b)
theorem lft_set {listed : Array Bool} {i : Nat} (hi : i < listed.size) (hl : listed.getD i true = false) : lft (listed.setIfInBounds i true) + 1 = lft listed := by
  have hg : listed.toList[i]'(by simpa using hi) = false := by
    rw [getD_flip hi] at hl
    simpa [Array.getD, hi] using hl
  unfold lft
  rw [Array.toList_setIfInBounds, List.countP_set (by simpa using hi)]
  have : 0 < listed.toList.countP (fun b => !b) := List.countP_pos_iff.2 ⟨false, hg ▸ List.getElem_mem _, rfl⟩
  simp only [hg, Bool.not_false, Bool.not_true, if_true, Bool.false_eq_true, if_false]
  omega
theorem lft_zero {listed : Array Bool} (h : lft listed = 0) {i : Nat} (hi : i < listed.size) : listed.getD i false = true := by
  unfold lft at h
  rw [List.countP_eq_zero] at h
  have := h (listed.toList[i]'(by simpa using hi)) (List.getElem_mem _)
  simpa [Array.getD, hi] using this

/-- THE RULE, by any property of what has been done. -/
theorem wpAny_inv (hb : backB ops = true) (φ : Nat → Act → World → Prop) (J : Act → World → Prop)
    (step : ∀ i o, ops[i]? = some o → ∀ a w K, J a w → (∀ e ∈ o.after, Region.binds .any e = true → φ e.on a w) →
      (∀ a' w', J a' w' → φ i a' w' → (∀ j, j < ops.size → j ≠ i → φ j a w → φ j a' w') → K a' w') → o.wp P a w K Q)
    (fin : ∀ a w, J a w → (∀ j, j < ops.size → φ j a w) → Q .normal a w) :
    ∀ (fuel : Nat) (listed : Array Bool) (a : Act) (w : World), listed.size = ops.size → lft listed ≤ fuel → J a w → (∀ j, j < ops.size → listed.getD j false = true → φ j a w) → wpAny P .any ops Q fuel listed a w := by
  intro fuel
  induction fuel with
  | zero =>
    intro listed a w hs hf hJ hφ
    have hall : ∀ j, j < ops.size → listed.getD j false = true := fun j hj => lft_zero (by omega) (by omega)
    refine ⟨?_, fin a w hJ (fun j hj => hφ j hj (hall j hj))⟩
    rw [List.eq_nil_iff_forall_not_mem]
    intro i hi
    obtain ⟨h1, h2, _⟩ := ready_spec hi
    rw [getD_flip (by omega), hall i h1] at h2
    cases h2
  | succ fuel ih =>
    intro listed a w hs hf hJ hφ
    refine ⟨fun h0 => fin a w hJ (fun j hj => hφ j hj (all_listed hb hs h0 j hj)), fun i hi => ?_⟩
    obtain ⟨h1, h2, h3⟩ := ready_spec hi
    obtain ⟨o, ho⟩ : ∃ o, ops[i]? = some o := ⟨ops[i], Array.getElem?_eq_getElem h1⟩
    unfold wpOp
    rw [ho]
    simp only []
    rw [if_pos (by simp [Region.wanted, (back_spec hb ho).1])]
    refine Or.inl (step i o ho a w _ hJ (fun e he hbd => ?_) (fun a' w' hJ' hφ' hk => ?_))
    · exact hφ e.on (by have := (back_spec hb ho).2 e he; omega) (h3 o ho e he hbd)
    · refine ih _ a' w' (by simpa using hs) ?_ hJ' (fun j hj hl => ?_)
      · have := lft_set (by omega) h2
        omega
      · by_cases hji : j = i
        · subst hji; exact hφ'
        · refine hk j hj hji (hφ j hj ?_)
          rw [getD_set_ne (fun e => hji e.symm)] at hl
          exact hl
/-- What operation j has yielded. -/
def slotOf (ops : Array Oper) (j : Nat) (a : Act) : Value := match (ops[j]?).bind (·.dst) with | some d => a.tmps.getD d undef | none => undef
/-- No two operations write one slot, and every slot is there. -/
def apartB (ops : Array Oper) (n : Nat) : Bool := (List.range ops.size).all fun i => match (ops[i]?).bind (·.dst) with
  | none => true
  | some d => decide (d < n) && (List.range ops.size).all fun j => i == j || (ops[j]?).bind (·.dst) != some d
theorem apart_spec {n : Nat} (h : apartB ops n = true) {i d : Nat} {o : Oper} (ho : ops[i]? = some o) (hd : o.dst = some d) : d < n ∧ ∀ j, j < ops.size → j ≠ i → (ops[j]?).bind (·.dst) ≠ some d := by
  have hi : i < ops.size := (Array.getElem?_eq_some_iff.1 ho).1
  have := (List.all_eq_true.1 h) i (by simpa using hi)
  rw [ho, Option.bind_some, hd] at this
  simp only [Bool.and_eq_true] at this
  refine ⟨of_decide_eq_true this.1, fun j hj hji => ?_⟩
  have h2 := (List.all_eq_true.1 this.2) j (by simpa using hj)
  simp only [Bool.or_eq_true, beq_iff_eq, bne_iff_ne] at h2
  exact h2.resolve_left (fun e => hji e.symm)
def offB (ops : Array Oper) (k : Nat) : Bool := ops.all fun o => o.dst != some k
/-- The frame of a, but for the region's own slots. -/
def Fr (a : Act) (ops : Array Oper) (a1 : Act) : Prop := a1.defers = a.defers ∧ a1.tmps.size = a.tmps.size ∧ ∀ k, offB ops k = true → a1.tmps.getD k undef = a.tmps.getD k undef
theorem Fr.put {a a1 : Act} (h : Fr a ops a1) {i : Nat} {o : Oper} (ho : ops[i]? = some o) (v : Value) : Fr a ops (a1.put o.dst v) := by
  cases hd : o.dst with
  | none => exact h
  | some d =>
    refine ⟨h.1, by simpa [Act.put] using h.2.1, fun k hk => ?_⟩
    have hne : d ≠ k := by
      intro e
      unfold offB at hk
      rw [Array.all_eq_true'] at hk
      have := hk o (Array.mem_of_getElem? ho)
      rw [hd, e] at this
      simp at this
    rw [← h.2.2 k hk]
    simp [Act.put, Array.getD_eq_getD_getElem?, hne]
theorem slot_same {a1 : Act} {i : Nat} {o : Oper} (ho : ops[i]? = some o) {d : Nat} (hd : o.dst = some d) (hlt : d < a1.tmps.size) (v : Value) : slotOf ops i (a1.put o.dst v) = v := by
  unfold slotOf
  rw [ho, Option.bind_some, hd]
  simp [Act.put, Array.getD_eq_getD_getElem?, hlt]
theorem slot_other {n : Nat} (hA : apartB ops n = true) {a1 : Act} {i j : Nat} {o : Oper} (ho : ops[i]? = some o) (hj : j < ops.size) (hji : j ≠ i) (v : Value) : slotOf ops j (a1.put o.dst v) = slotOf ops j a1 := by
  cases hd : o.dst with
  | none => rfl
  | some d =>
    have hne := (apart_spec hA ho hd).2 j hj hji
    unfold slotOf
    split
    · rename_i d' hd'
      have hdd : d ≠ d' := fun e => hne (by rw [hd', e])
      simp [Act.put, Array.getD_eq_getD_getElem?, hdd]
    · rfl

/-- THE RULE BY SLOTS: what operation j yields (psi j), whatever comes beside; one operation (st) may store where none of the others looks. -/
theorem wp_region_free {id : Nat} {a : Act} {w : World} (hm : P.follows .mixedOrders = true) (hb : backB ops = true) (hA : apartB ops a.tmps.size = true)
    (Rel : World → World → Prop) (hN : ∀ w w', Nx w w' → Rel w w') (hT : ∀ u v w, Rel u v → Rel v w → Rel u w)
    (st : Nat) (J : World → Prop) (psi : Nat → Value → World → Prop)
    (k1 : ∀ j v w w', j ≠ st → Rel w w' → psi j v w → psi j v w') (k2 : ∀ v w w', Nx w w' → psi st v w → psi st v w')
    (kJ : ∀ w w', Nx w w' → J w → J w') (hJ : J w)
    (step : ∀ i o, ops[i]? = some o → ∀ a1 w1 K, Fr a ops a1 → J w1 → Rel w w1 → (∀ e ∈ o.after, Region.binds .any e = true → psi e.on (slotOf ops e.on a1) w1) →
      (∀ v w2, (i ≠ st → Nx w1 w2) → (i = st → Rel w1 w2 ∧ J w2) → psi i v w2 → (o.dst = none → v = undef) → K (a1.put o.dst v) w2) → o.wp P a1 w1 K Q)
    (fin : ∀ a1 w1, Fr a ops a1 → J w1 → Rel w w1 → (∀ j, j < ops.size → psi j (slotOf ops j a1) w1) → Q .normal a1 w1) : (Code.region id ops true).wp P Q a w := by
  have hw : Nx w { w with drawn := w.drawn + 1 } := (Nx.refl w).drew
  refine wp_region_any hm (wpAny_inv hb (fun j a1 w1 => psi j (slotOf ops j a1) w1) (fun a1 w1 => Fr a ops a1 ∧ J w1 ∧ Rel w w1)
    (fun i o ho a1 w1 K hF hE hK => ?_) (fun a1 w1 hF h => fin a1 w1 hF.1 hF.2.1 hF.2.2 h) ops.size (Array.replicate ops.size false) a _ (by simp) ?_ ⟨⟨rfl, rfl, fun _ _ => rfl⟩, kJ _ _ hw hJ, hN _ _ hw⟩ ?_)
  · refine step i o ho a1 w1 K hF.1 hF.2.1 hF.2.2 hE (fun v w2 h1 h2 h3 h4 => hK _ _ ⟨hF.1.put ho v, ?_, hT _ _ _ hF.2.2 ?_⟩ ?_ (fun j hj hji hp => ?_))
    · by_cases e : i = st
      · exact (h2 e).2
      · exact kJ _ _ (h1 e) hF.2.1
    · by_cases e : i = st
      · exact (h2 e).1
      · exact hN _ _ (h1 e)
    · cases hd : o.dst with
      | none =>
        rw [h4 hd] at h3
        unfold slotOf
        rw [ho, Option.bind_some, hd]
        exact h3
      | some d =>
        rw [← hd, slot_same ho hd (by rw [hF.1.2.1]; exact (apart_spec hA ho hd).1)]
        exact h3
    · rw [slot_other hA ho hj hji]
      by_cases e : i = st
      · exact k1 j _ _ _ (by omega) (h2 e).1 hp
      · by_cases e2 : j = st
        · subst e2; exact k2 _ _ _ (h1 e) hp
        · exact k1 j _ _ _ e2 (hN _ _ (h1 e)) hp
  · unfold lft
    exact Nat.le_trans (List.countP_le_length) (by simp)
  · intro j hj hl
    simp [Array.getD, hj] at hl
end
end
section
open Go.RowKit

/-- A row of bools of the call's own, nil or not. -/
def Ow (w : World) (B : Nat) (v : Value) (xs : List Bool) : Prop := w.ownsRow B 4 1 v xs.length (bools xs)
theorem Ow.kept {w w' : World} {B b : Nat} {v : Value} {xs : List Bool} (h : Ow w B v xs) (hb : b < B) (k : w.grownBy w' (some b)) : Ow w' B v xs := by
  refine World.ownsRow.kept h k ?_
  rcases h.2 with ⟨rfl, _⟩ | ⟨g, cap, cur, rfl, hg, _⟩
  · exact .inl rfl
  · exact .inr (by simp [Value.ownBlock]; omega)
theorem Nx.grown {w w' : World} (k : Nx w w') (row : Option Nat) : w.grownBy w' row := ⟨k.os, k.tape, k.output, k.size, fun i hi _ => k.block i hi⟩
theorem grown_trans {u v w : World} {row : Option Nat} (h : u.grownBy v row) (k : v.grownBy w row) : u.grownBy w row :=
  ⟨k.os.trans h.os, k.tape.trans h.tape, k.output.trans h.output, Nat.le_trans h.size k.size, fun i hi hr => (k.block i (Nat.lt_of_lt_of_le hi h.size) hr).trans (h.block i hi hr)⟩
theorem nx_grown {u v w : World} {b : Nat} (h : Nx u v) (k : v.grownBy w (some b)) (hb : u.heap.size ≤ b) : Nx u w :=
  Below.grown h k h.size (fun j e => by have := Option.some.inj e; omega)
theorem own_low {w : World} {B B' : Nat} {v : Value} {n : Nat} {ys : List Value} (h : w.ownsRow B 4 1 v n ys) (hb : B' ≤ B) : w.ownsRow B' 4 1 v n ys := by
  obtain ⟨h1, h2⟩ := h
  refine ⟨h1, ?_⟩
  rcases h2 with hn | ⟨g', cap, cur, e, hg, rest⟩
  · exact .inl hn
  · exact .inr ⟨g', cap, cur, e, Nat.le_trans hb hg, rest⟩
theorem Ow.im {w : World} {B : Nat} {v : Value} {xs : List Bool} (h : Ow w B v xs) : ∃ A c, v = .slice A xs.length c ∧ Im w A xs.length c xs := by
  rcases h.2 with ⟨rfl, h0⟩ | ⟨g, cap, cur, rfl, hg, _⟩
  · have : xs = [] := List.eq_nil_of_length_eq_zero h0
    subst this
    exact ⟨none, 0, rfl, fun k b hk => by simp at hk, rfl, fun _ => rfl⟩
  · have h' : OwB w B g cap xs := h
    exact ⟨_, _, rfl, h'.rd, rfl, fun e => by cases e⟩

/-- append(an empty slice of the call's own, an image ...). -/
theorem wp_fresh {o : Oper} {a1 : Act} {w1 : World} {K : Act → World → Prop} {Q : Exit → Act → World → Prop} (s x : Operand)
    (ho : o.op = .call { callee := .builtin .append, args := #[s, x], argTypes := #[22, 22] }) (B g : Nat) (hs : a1.eval s = .slice (some ⟨g, 0, none⟩) 0 0)
    (hg : w1.ownsRow B 4 1 (.slice (some ⟨g, 0, none⟩) 0 0) 0 []) (hB : B ≤ w1.heap.size) (A : Option Addr) (m c : Nat) (xs : List Bool) (hx : a1.eval x = .slice A m c) (hi : Im w1 A m c xs) (hm : m ≤ 1000000)
    (h : ∀ v w2, Nx w1 w2 → Ow w2 B v xs → (xs ≠ [] → Ow w2 w1.heap.size v xs) → K (a1.put o.dst v) w2) : o.wp Try.prog a1 w1 K Q := by
  obtain ⟨hr, hl, hc⟩ := hi
  obtain ⟨i0, h2, hz0, hz1, hz2⟩ := info_parts info4
  have empty : xs = [] → Ow w1 B (.slice (some ⟨g, 0, none⟩) 0 0) xs := fun e => by subst e; exact hg
  cases A with
  | none =>
    obtain rfl := hc rfl
    have hxs : xs = [] := by
      cases xs with
      | nil => rfl
      | cons b l => obtain ⟨ad, e, _⟩ := hr 0 b rfl; cases e
    subst hxs
    subst hl
    have hrun := run_append_owned_none (P := Try.prog) (w := w1) B 22 o.type 4 i0 1 Try.underlying22 h2 _ 0 [] hg
    unfold Oper.wp
    simp [execOp, ho, resolve, invoke, builtin, hs, hx, hrun, Result.andThen]
    exact h _ _ (Nx.refl _) (empty rfl) (fun e => absurd rfl e)
  | some ad =>
    by_cases h0 : m = 0
    · subst h0
      have hxs : xs = [] := List.eq_nil_of_length_eq_zero hl
      have hrun := run_append_room_cells (P := Try.prog) w1 22 o.type 4 i0 Try.underlying22 h2 g 0 0 0 ad 0 c [] (by simp) (by simp) (by simp) (Nat.le_refl _) (by simp) (by simp)
      unfold Oper.wp
      simp [execOp, ho, resolve, invoke, builtin, hs, hx, hrun, Result.andThen]
      exact h _ _ (Nx.refl _) (empty hxs) (fun e => absurd hxs e)
    · obtain ⟨v', w', hrun, r1, r2⟩ := run_append_arg_grows (P := Try.prog) w1 22 o.type 4 i0 (.bool false) 1 1 Try.underlying22 h2 hz0 hz1 hz2 rfl (by decide) ⟨g, 0, none⟩ 0 0 [] (by simp) (by simp) ad m c (bools xs) (by rw [bools_length, hl]; omega) (src_of hr) (by omega) (by unfold maxLen; omega) (by omega)
      unfold Oper.wp
      simp [execOp, ho, resolve, invoke, builtin, hs, hx, hrun, Result.andThen]
      rw [Nat.zero_add, List.nil_append, ← hl] at r1
      exact h v' w' (Below.grown (Nx.refl _) r2 (Nat.le_refl _) (fun _ e => by cases e)) (own_low r1 hB) (fun _ => r1)
theorem tmp_of {a1 : Act} {k : Nat} {v : Value} (h : a1.tmps.getD k undef = v) : a1.tmps[k]?.getD undef = v := by rwa [Array.getD_eq_getD_getElem?] at h
theorem grown_set (w : World) (b i : Nat) (v : Value) : w.grownBy (w.setCell ⟨b, i, none⟩ v) (some b) :=
  ⟨rfl, rfl, rfl, by simp [World.setCell], fun k _ hk => Deep.blk_setCell_other w _ v k (fun e => hk (by rw [e]))⟩
theorem Ow.nx {w w' : World} {B : Nat} {v : Value} {xs : List Bool} (h : Ow w B v xs) (k : Nx w w') : Ow w' B v xs := by
  refine World.ownsRow.kept h (k.grown none) ?_
  rcases h.2 with ⟨rfl, _⟩ | ⟨g, cap, cur, rfl, hg, _⟩
  · exact .inl rfl
  · exact .inr (by simp [Value.ownBlock])
end
section
open Go.RowKit

section
variable {P : Program} {ops : Array Oper} {Q : Exit → Act → World → Prop}

/-- What operation j may look at: what it waits for, and what that may look at. -/
def seeB (ops : Array Oper) (see : Nat → List Nat) : Bool := (List.range ops.size).all fun j => (see j).all fun k =>
  ((ops[j]?).map fun o => o.after.any fun e => Region.binds .any e && (e.on == k || (see e.on).contains k)).getD false
theorem see_spec {see : Nat → List Nat} (h : seeB ops see = true) {j : Nat} {o : Oper} (ho : ops[j]? = some o) {k : Nat} (hk : k ∈ see j) : ∃ e ∈ o.after, Region.binds .any e = true ∧ (e.on = k ∨ k ∈ see e.on) := by
  have hj : j < ops.size := (Array.getElem?_eq_some_iff.1 ho).1
  have h1 := (List.all_eq_true.1 ((List.all_eq_true.1 h) j (by simpa using hj))) k hk
  rw [ho] at h1
  simp only [Option.map_some, Option.getD_some] at h1
  rw [Array.any_eq_true'] at h1
  obtain ⟨e, he, h2⟩ := h1
  simp only [Bool.and_eq_true, Bool.or_eq_true, beq_iff_eq, List.contains_iff_mem] at h2
  exact ⟨e, he, h2.1, h2.2⟩
theorem getD_set_keep {listed : Array Bool} {i j : Nat} (h : listed.getD j false = true) : (listed.setIfInBounds i true).getD j false = true := by
  by_cases e : i = j
  · subst e
    by_cases hi : i < listed.size
    · simp [Array.getD_eq_getD_getElem?, hi]
    · simp [Array.getD, hi] at h
  · rw [getD_set_ne e]; exact h

theorem wpAny_inv2 (hb : backB ops = true) (see : Nat → List Nat) (hsee : seeB ops see = true) (φ : Nat → Act → World → Prop) (J : Act → World → Prop)
    (step : ∀ i o, ops[i]? = some o → ∀ a w K, J a w → (∀ e ∈ o.after, Region.binds .any e = true → φ e.on a w) →
      (∀ a' w', J a' w' → φ i a' w' → (∀ j, j < ops.size → j ≠ i → i ∉ see j → φ j a w → φ j a' w') → K a' w') → o.wp P a w K Q)
    (fin : ∀ a w, J a w → (∀ j, j < ops.size → φ j a w) → Q .normal a w) :
    ∀ (fuel : Nat) (listed : Array Bool) (a : Act) (w : World), listed.size = ops.size → lft listed ≤ fuel → J a w → (∀ j, j < ops.size → listed.getD j false = true → φ j a w) →
      (∀ j, listed.getD j false = true → ∀ k ∈ see j, listed.getD k false = true) → wpAny P .any ops Q fuel listed a w := by
  intro fuel
  induction fuel with
  | zero =>
    intro listed a w hs hf hJ hφ hC
    have hall : ∀ j, j < ops.size → listed.getD j false = true := fun j hj => lft_zero (by omega) (by omega)
    refine ⟨?_, fin a w hJ (fun j hj => hφ j hj (hall j hj))⟩
    rw [List.eq_nil_iff_forall_not_mem]
    intro i hi
    obtain ⟨h1, h2, _⟩ := ready_spec hi
    rw [getD_flip (by omega), hall i h1] at h2
    cases h2
  | succ fuel ih =>
    intro listed a w hs hf hJ hφ hC
    refine ⟨fun h0 => fin a w hJ (fun j hj => hφ j hj (all_listed hb hs h0 j hj)), fun i hi => ?_⟩
    obtain ⟨h1, h2, h3⟩ := ready_spec hi
    obtain ⟨o, ho⟩ : ∃ o, ops[i]? = some o := ⟨ops[i], Array.getElem?_eq_getElem h1⟩
    have hni : listed.getD i false = false := by rw [← getD_flip (by omega)]; exact h2
    unfold wpOp
    rw [ho]
    simp only []
    rw [if_pos (by simp [Region.wanted, (back_spec hb ho).1])]
    refine Or.inl (step i o ho a w _ hJ (fun e he hbd => ?_) (fun a' w' hJ' hφ' hk => ?_))
    · exact hφ e.on (by have := (back_spec hb ho).2 e he; omega) (h3 o ho e he hbd)
    · refine ih _ a' w' (by simpa using hs) ?_ hJ' (fun j hj hl => ?_) (fun j hl k hkj => ?_)
      · have := lft_set (by omega) h2
        omega
      · by_cases hji : j = i
        · subst hji; exact hφ'
        · rw [getD_set_ne (fun e => hji e.symm)] at hl
          exact hk j hj hji (fun hm => by rw [hC j hl i hm] at hni; cases hni) (hφ j hj hl)
      · by_cases hji : j = i
        · subst hji
          obtain ⟨e, he, hbd, hor⟩ := see_spec hsee ho hkj
          have hle := h3 o ho e he hbd
          refine getD_set_keep ?_
          rcases hor with rfl | hm
          · exact hle
          · exact hC e.on hle k hm
        · rw [getD_set_ne (fun e => hji e.symm)] at hl
          exact getD_set_keep (hC j hl k hkj)

/-- What each operation has yielded. -/
def view (ops : Array Oper) (a : Act) : Nat → Value := fun k => slotOf ops k a
def upd (f : Nat → Value) (i : Nat) (v : Value) : Nat → Value := fun k => if k = i then v else f k
theorem view_put {n : Nat} (hA : apartB ops n = true) {a1 : Act} (hn : a1.tmps.size = n) {i : Nat} {o : Oper} (ho : ops[i]? = some o) (v : Value) (hv : o.dst = none → v = undef) : view ops (a1.put o.dst v) = upd (view ops a1) i v := by
  funext k
  unfold view upd
  by_cases hk : k = i
  · subst hk
    rw [if_pos rfl]
    cases hd : o.dst with
    | none => unfold slotOf; rw [ho, Option.bind_some, hd, hv hd]
    | some d => rw [← hd]; exact slot_same ho hd (by rw [hn]; exact (apart_spec hA ho hd).1) v
  · rw [if_neg hk]
    by_cases hs : k < ops.size
    · exact slot_other hA ho hs hk v
    · have e : ops[k]? = none := Array.getElem?_eq_none (by omega)
      show slotOf ops k _ = slotOf ops k _
      unfold slotOf
      rw [e]
      rfl

/-- THE RULE. -/
theorem wp_region_see {id : Nat} {a : Act} {w : World} (hm : P.follows .mixedOrders = true) (hb : backB ops = true) (hA : apartB ops a.tmps.size = true)
    (see : Nat → List Nat) (hsee : seeB ops see = true)
    (Rel : World → World → Prop) (hN : ∀ w w', Nx w w' → Rel w w') (hT : ∀ u v w, Rel u v → Rel v w → Rel u w)
    (st : Nat) (J : World → Prop) (psi : Nat → (Nat → Value) → World → Prop)
    (kV : ∀ j f f' w, f j = f' j → (∀ k ∈ see j, f k = f' k) → psi j f w → psi j f' w)
    (k1 : ∀ j f w w', j ≠ st → Rel w w' → psi j f w → psi j f w') (k2 : ∀ f w w', Nx w w' → psi st f w → psi st f w')
    (kJ : ∀ w w', Nx w w' → J w → J w') (hJ : J w)
    (step : ∀ i o, ops[i]? = some o → ∀ a1 w1 K, Fr a ops a1 → J w1 → Rel w w1 → (∀ e ∈ o.after, Region.binds .any e = true → psi e.on (view ops a1) w1) →
      (∀ v w2, (i ≠ st → Nx w1 w2) → (i = st → Rel w1 w2 ∧ J w2) → psi i (upd (view ops a1) i v) w2 → (o.dst = none → v = undef) → K (a1.put o.dst v) w2) → o.wp P a1 w1 K Q)
    (fin : ∀ a1 w1, Fr a ops a1 → J w1 → Rel w w1 → (∀ j, j < ops.size → psi j (view ops a1) w1) → Q .normal a1 w1) : (Code.region id ops true).wp P Q a w := by
  have hw : Nx w { w with drawn := w.drawn + 1 } := (Nx.refl w).drew
  refine wp_region_any hm (wpAny_inv2 hb see hsee (fun j a1 w1 => psi j (view ops a1) w1) (fun a1 w1 => Fr a ops a1 ∧ J w1 ∧ Rel w w1)
    (fun i o ho a1 w1 K hF hE hK => ?_) (fun a1 w1 hF h => fin a1 w1 hF.1 hF.2.1 hF.2.2 h) ops.size (Array.replicate ops.size false) a _ (by simp) ?_ ⟨⟨rfl, rfl, fun _ _ => rfl⟩, kJ _ _ hw hJ, hN _ _ hw⟩ ?_ ?_)
  · refine step i o ho a1 w1 K hF.1 hF.2.1 hF.2.2 hE (fun v w2 h1 h2 h3 h4 => hK _ _ ⟨hF.1.put ho v, ?_, hT _ _ _ hF.2.2 ?_⟩ ?_ (fun j hj hji hns hp => ?_))
    · by_cases e : i = st
      · exact (h2 e).2
      · exact kJ _ _ (h1 e) hF.2.1
    · by_cases e : i = st
      · exact (h2 e).1
      · exact hN _ _ (h1 e)
    · rw [view_put hA hF.1.2.1 ho v h4]
      exact h3
    · rw [view_put hA hF.1.2.1 ho v h4]
      have hp' : psi j (upd (view ops a1) i v) w1 := kV j _ _ w1 (by unfold upd; rw [if_neg hji]) (fun k hk => by unfold upd; rw [if_neg (fun e => hns (by rw [← e]; exact hk))]) hp
      by_cases e : i = st
      · exact k1 j _ _ _ (by omega) (h2 e).1 hp'
      · by_cases e2 : j = st
        · subst e2; exact k2 _ _ _ (h1 e) hp'
        · exact k1 j _ _ _ e2 (hN _ _ (h1 e)) hp'
  · unfold lft
    exact Nat.le_trans (List.countP_le_length) (by simp)
  · intro j hj hl
    simp [Array.getD, hj] at hl
  · intro j hl k hk
    by_cases hj : j < ops.size
    · simp [Array.getD, hj] at hl
    · simp [Array.getD, hj] at hl
end
end
section
open Go.RowKit

section
variable {P : Program} {ops : Array Oper} {Q : Exit → Act → World → Prop}

/-- Each operation waits for earlier ones alone. -/
def backG (ops : Array Oper) : Bool := (List.range ops.size).all fun i => ((ops[i]?).map fun o => o.after.all fun e => decide (e.on < i)).getD true
theorem backG_spec (h : backG ops = true) {i : Nat} {o : Oper} (ho : ops[i]? = some o) : ∀ e ∈ o.after, e.on < i := by
  have hi : i < ops.size := (Array.getElem?_eq_some_iff.1 ho).1
  have := (List.all_eq_true.1 h) i (by simpa using hi)
  rw [ho] at this
  simp only [Option.map_some, Option.getD_some] at this
  intro e he
  rw [Array.all_eq_true'] at this
  exact of_decide_eq_true (this e he)
theorem all_listedG (hb : backG ops = true) {listed : Array Bool} (hs : listed.size = ops.size) (h : Region.ready .any ops listed = []) : ∀ i, i < ops.size → listed.getD i false = true := by
  intro i
  induction i using Nat.strongRecOn with
  | _ i ih =>
    intro hi
    cases hl : listed.getD i false with
    | true => rfl
    | false =>
      have : i ∈ Region.ready .any ops listed := ready_some hi (by rw [getD_flip (by omega)]; exact hl) (fun o ho e he => by
        have hlt := backG_spec hb ho e he
        exact ih e.on hlt (by omega))
      rw [h] at this
      cases this
theorem upd_same (f : Nat → Value) (i : Nat) (v : Value) : upd f i v i = v := if_pos rfl
/-- Is a guarded operation wanted? -/
theorem wanted_of {o : Oper} {g : Nat} {want b : Bool} {a1 : Act} (hg : o.guard = some (g, want)) {d : Nat} (hd : (ops[g]?).bind (·.dst) = some d) (hlt : d < a1.tmps.size) (hv : view ops a1 g = .bool b) : Region.wanted o (yielded ops a1.tmps) = (some b == some want) := by
  have e : a1.tmps[d]? = some (.bool b) := by
    unfold view slotOf at hv
    rw [hd] at hv
    simp only [Array.getD_eq_getD_getElem?] at hv
    rw [Array.getElem?_eq_getElem hlt] at hv ⊢
    simpa using hv
  unfold Region.wanted
  rw [hg]
  simp only []
  congr 1
  unfold yielded
  rw [hd, Option.bind_some, e]
theorem wanted_none {o : Oper} {y : Nat → Option Bool} (hg : o.guard = none) : Region.wanted o y = true := by unfold Region.wanted; rw [hg]

theorem wpAny_inv3 (hb : backG ops = true) (see : Nat → List Nat) (hsee : seeB ops see = true) (φ : Nat → Act → World → Prop) (J : Act → World → Prop)
    (step : ∀ i o, ops[i]? = some o → ∀ a w K, J a w → (∀ e ∈ o.after, Region.binds .any e = true → φ e.on a w) →
      (∀ a' w', J a' w' → φ i a' w' → (∀ j, j < ops.size → j ≠ i → i ∉ see j → φ j a w → φ j a' w') → K a' w') →
        (Region.wanted o (yielded ops a.tmps) = true ∧ o.wp P a w K Q) ∨ (Region.wanted o (yielded ops a.tmps) = false ∧ K (a.put o.dst undef) w))
    (fin : ∀ a w, J a w → (∀ j, j < ops.size → φ j a w) → Q .normal a w) :
    ∀ (fuel : Nat) (listed : Array Bool) (a : Act) (w : World), listed.size = ops.size → lft listed ≤ fuel → J a w → (∀ j, j < ops.size → listed.getD j false = true → φ j a w) →
      (∀ j, listed.getD j false = true → ∀ k ∈ see j, listed.getD k false = true) → wpAny P .any ops Q fuel listed a w := by
  intro fuel
  induction fuel with
  | zero =>
    intro listed a w hs hf hJ hφ hC
    have hall : ∀ j, j < ops.size → listed.getD j false = true := fun j hj => lft_zero (by omega) (by omega)
    refine ⟨?_, fin a w hJ (fun j hj => hφ j hj (hall j hj))⟩
    rw [List.eq_nil_iff_forall_not_mem]
    intro i hi
    obtain ⟨h1, h2, _⟩ := ready_spec hi
    rw [getD_flip (by omega), hall i h1] at h2
    cases h2
  | succ fuel ih =>
    intro listed a w hs hf hJ hφ hC
    refine ⟨fun h0 => fin a w hJ (fun j hj => hφ j hj (all_listedG hb hs h0 j hj)), fun i hi => ?_⟩
    obtain ⟨h1, h2, h3⟩ := ready_spec hi
    obtain ⟨o, ho⟩ : ∃ o, ops[i]? = some o := ⟨ops[i], Array.getElem?_eq_getElem h1⟩
    have hni : listed.getD i false = false := by rw [← getD_flip (by omega)]; exact h2
    unfold wpOp
    rw [ho]
    simp only []
    refine (show _ → _ from fun h => ?_) (step i o ho a w (wpAny P .any ops Q fuel (listed.setIfInBounds i true)) hJ (fun e he hbd => ?_) (fun a' w' hJ' hφ' hk => ?_))
    · rcases h with ⟨hw, h⟩ | ⟨hw, h⟩
      · rw [if_pos hw]; exact Or.inl h
      · rw [if_neg (by rw [hw]; decide)]; exact h
    · exact hφ e.on (by have := backG_spec hb ho e he; omega) (h3 o ho e he hbd)
    · refine ih _ a' w' (by simpa using hs) ?_ hJ' (fun j hj hl => ?_) (fun j hl k hkj => ?_)
      · have := lft_set (by omega) h2
        omega
      · by_cases hji : j = i
        · subst hji; exact hφ'
        · rw [getD_set_ne (fun e => hji e.symm)] at hl
          exact hk j hj hji (fun hm => by rw [hC j hl i hm] at hni; cases hni) (hφ j hj hl)
      · by_cases hji : j = i
        · subst hji
          obtain ⟨e, he, hbd, hor⟩ := see_spec hsee ho hkj
          have hle := h3 o ho e he hbd
          refine getD_set_keep ?_
          rcases hor with rfl | hm
          · exact hle
          · exact hC e.on hle k hm
        · rw [getD_set_ne (fun e => hji e.symm)] at hl
          exact getD_set_keep (hC j hl k hkj)

/-- THE RULE. -/
theorem wp_region_run {id : Nat} {a : Act} {w : World} (hm : P.follows .mixedOrders = true) (hb : backG ops = true) (hA : apartB ops a.tmps.size = true)
    (see : Nat → List Nat) (hsee : seeB ops see = true)
    (Rel : World → World → Prop) (hN : ∀ w w', Nx w w' → Rel w w') (hT : ∀ u v w, Rel u v → Rel v w → Rel u w)
    (st : Nat) (J : World → Prop) (psi : Nat → (Nat → Value) → World → Prop)
    (kV : ∀ j f f' w, f j = f' j → (∀ k ∈ see j, f k = f' k) → psi j f w → psi j f' w)
    (k1 : ∀ j f w w', j ≠ st → Rel w w' → psi j f w → psi j f w') (k2 : ∀ f w w', Nx w w' → psi st f w → psi st f w')
    (kJ : ∀ w w', Nx w w' → J w → J w') (hJ : J w)
    (step : ∀ i o, ops[i]? = some o → ∀ a1 w1 K, Fr a ops a1 → J w1 → Rel w w1 → (∀ e ∈ o.after, Region.binds .any e = true → psi e.on (view ops a1) w1) →
      (∀ v w2, (i ≠ st → Nx w1 w2) → (i = st → Rel w1 w2 ∧ J w2) → psi i (upd (view ops a1) i v) w2 → (o.dst = none → v = undef) → K (a1.put o.dst v) w2) →
        (Region.wanted o (yielded ops a1.tmps) = true ∧ o.wp P a1 w1 K Q) ∨ (Region.wanted o (yielded ops a1.tmps) = false ∧ K (a1.put o.dst undef) w1))
    (fin : ∀ a1 w1, Fr a ops a1 → J w1 → Rel w w1 → (∀ j, j < ops.size → psi j (view ops a1) w1) → Q .normal a1 w1) : (Code.region id ops true).wp P Q a w := by
  have hw : Nx w { w with drawn := w.drawn + 1 } := (Nx.refl w).drew
  refine wp_region_any hm (wpAny_inv3 hb see hsee (fun j a1 w1 => psi j (view ops a1) w1) (fun a1 w1 => Fr a ops a1 ∧ J w1 ∧ Rel w w1)
    (fun i o ho a1 w1 K hF hE hK => ?_) (fun a1 w1 hF h => fin a1 w1 hF.1 hF.2.1 hF.2.2 h) ops.size (Array.replicate ops.size false) a _ (by simp) ?_ ⟨⟨rfl, rfl, fun _ _ => rfl⟩, kJ _ _ hw hJ, hN _ _ hw⟩ ?_ ?_)
  · refine step i o ho a1 w1 K hF.1 hF.2.1 hF.2.2 hE (fun v w2 h1 h2 h3 h4 => hK _ _ ⟨hF.1.put ho v, ?_, hT _ _ _ hF.2.2 ?_⟩ ?_ (fun j hj hji hns hp => ?_))
    · by_cases e : i = st
      · exact (h2 e).2
      · exact kJ _ _ (h1 e) hF.2.1
    · by_cases e : i = st
      · exact (h2 e).1
      · exact hN _ _ (h1 e)
    · rw [view_put hA hF.1.2.1 ho v h4]
      exact h3
    · rw [view_put hA hF.1.2.1 ho v h4]
      have hp' : psi j (upd (view ops a1) i v) w1 := kV j _ _ w1 (by unfold upd; rw [if_neg hji]) (fun k hk => by unfold upd; rw [if_neg (fun e => hns (by rw [← e]; exact hk))]) hp
      by_cases e : i = st
      · exact k1 j _ _ _ (by omega) (h2 e).1 hp'
      · by_cases e2 : j = st
        · subst e2; exact k2 _ _ _ (h1 e) hp'
        · exact k1 j _ _ _ e2 (hN _ _ (h1 e)) hp'
  · unfold lft
    exact Nat.le_trans (List.countP_le_length) (by simp)
  · intro j hj hl
    simp [Array.getD, hj] at hl
  · intro j hl k hk
    by_cases hj : j < ops.size
    · simp [Array.getD, hj] at hl
    · simp [Array.getD, hj] at hl
end
end
end Go.Proofs.Ytdpccnpaajhliaa
