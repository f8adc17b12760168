/- What image.Parse and the reference's Parse return. Conditions: a text of at most the model's greatest length. -/
import Derived.Test.YtndoadkkcmaocaaE
namespace Go.Proofs.Ytndoadkkcmaocaa
open Go.RowKit

abbrev B (s : ByteArray) : List UInt8 := s.data.toList
theorem size_B (s : ByteArray) : (B s).length = s.size := by unfold B; rw [Array.length_toList]; rfl
theorem getB (s : ByteArray) (k : Nat) (h : k < s.size) : (B s)[k]? = some s[k] := by
  unfold B
  rw [List.getElem?_eq_getElem (by rw [Array.length_toList]; exact h), Array.getElem_toList]; rfl
theorem B_inj {a b : ByteArray} (h : B a = B b) : a = b := by
  cases a; cases b; simp [B] at h; rw [h]
theorem isEmptyB (s : ByteArray) : s.toList.isEmpty = decide (s.size = 0) := by
  rw [ByteArray.toList_eq, Bool.eq_iff_iff, List.isEmpty_iff, decide_eq_true_iff]
  constructor
  · intro h; have := congrArg List.length h; rw [show s.data.toList = B s from rfl, size_B] at this; simpa using this
  · intro h; exact List.eq_nil_of_length_eq_zero (by rw [show s.data.toList = B s from rfl, size_B]; exact h)

/-- A digit of an image, and the bit that it stands for. -/
def okc (c : UInt8) : Bool := c == 48 || c == 49
def bt (c : UInt8) : Bool := c == 49
/-- The code and the image that Parse answers. -/
def pc (s : ByteArray) : Int := if 16384 < s.size then 7 else if B s = [45] then 0 else if s.size = 0 then 6 else if (B s).all okc then 0 else 6
def px (s : ByteArray) : List Bool := if 16384 < s.size ∨ B s = [45] ∨ (B s).all okc = false then [] else (B s).map bt

theorem px_long {s : ByteArray} (h : 16384 < s.size) : px s = [] ∧ pc s = 7 := by unfold px pc; exact ⟨if_pos (.inl h), if_pos h⟩
theorem px_dash {s : ByteArray} (h : B s = [45]) : px s = [] ∧ pc s = 0 := by
  have : s.size = 1 := by rw [← size_B, h]; rfl
  unfold px pc; exact ⟨if_pos (.inr (.inl h)), by rw [if_neg (by omega), if_pos h]⟩
theorem px_nil {s : ByteArray} (h : s.size = 0) : px s = [] ∧ pc s = 6 := by
  have hb : B s = [] := List.eq_nil_of_length_eq_zero (by rw [size_B]; exact h)
  unfold px pc; rw [hb]; exact ⟨by simp, by rw [if_neg (by omega), if_neg (by simp), if_pos h]⟩
theorem px_bad {s : ByteArray} (h1 : s.size ≤ 16384) (h2 : B s ≠ [45]) (h : (B s).all okc = false) : px s = [] ∧ pc s = 6 := by
  unfold px pc; refine ⟨if_pos (.inr (.inr h)), ?_⟩
  rw [if_neg (by omega), if_neg h2]; split
  · rfl
  · rw [h]; rfl
theorem px_ok {s : ByteArray} (h1 : s.size ≤ 16384) (h2 : B s ≠ [45]) (h3 : s.size ≠ 0) (h : (B s).all okc = true) : px s = (B s).map bt ∧ pc s = 0 := by
  unfold px pc
  refine ⟨if_neg ?_, by rw [if_neg (by omega), if_neg h2, if_neg h3, if_pos h]⟩
  rintro (h' | h' | h')
  · omega
  · exact h2 h'
  · rw [h] at h'; cases h'

def ParPost (s : ByteArray) (w : World) (e : Ending) (w' : World) : Prop :=
  ∃ A c, e = .returned (.tuple #[.slice A (px s).length c, .int .i64 (pc s)]) ∧ Rd w' A (px s) ∧ Nx w w'
theorem parPost_none {s : ByteArray} {w w' : World} {n : Int} (h : px s = [] ∧ pc s = n) (hn : Nx w w') : ParPost s w (.returned (.tuple #[.slice none 0 0, .int .i64 n])) w' :=
  ⟨none, 0, by rw [h.1, h.2]; rfl, by rw [h.1]; intro k b hk; simp at hk, hn⟩

theorem parPost_row {s : ByteArray} {w w' : World} {base g c n : Nat} (hn : s.size = n) (h1 : n ≤ 16384) (h2 : B s ≠ [45]) (h3 : n ≠ 0) (h : (B s).all okc = true) (hown : OwB w' base g c ((B s).map bt)) (hx : Nx w w') :
    ParPost s w (.returned (.tuple #[.slice (some ⟨g, 0, none⟩) n c, .int .i64 0])) w' := by
  subst hn
  obtain ⟨e1, e2⟩ := px_ok h1 h2 h3 h
  refine ⟨some ⟨g, 0, none⟩, c, ?_, by rw [e1]; exact hown.rd, hx⟩
  rw [e1, e2, List.length_map, size_B]

/-- The first k of xs, and false behind. -/
def fill (xs : List Bool) (k : Nat) : List Bool := xs.take k ++ List.replicate (xs.length - k) false
theorem fill_length {xs : List Bool} {k : Nat} (h : k ≤ xs.length) : (fill xs k).length = xs.length := by unfold fill; simp; omega
theorem fill_at {xs : List Bool} {k : Nat} (h : k < xs.length) : (fill xs k)[k]? = some false := by
  unfold fill
  have e : (xs.take k).length = k := by rw [List.length_take]; omega
  rw [List.getElem?_append_right (by omega), List.getElem?_replicate, if_pos (by omega)]
theorem fill_step {xs : List Bool} {k : Nat} {b : Bool} (h : xs[k]? = some b) : (fill xs k).set k b = fill xs (k + 1) := by
  have hk : k < xs.length := (List.getElem?_eq_some_iff.1 h).1
  unfold fill
  rw [take_snoc xs k b h, List.set_append_right _ _ (by simp; omega)]
  have e : xs.length - k = (xs.length - (k + 1)) + 1 := by omega
  have e2 : k - (xs.take k).length = 0 := by simp; omega
  rw [e, e2, List.replicate_succ, List.set_cons_zero, List.append_assoc]; rfl
theorem fill_all (xs : List Bool) : fill xs xs.length = xs := by unfold fill; simp
theorem fill_zero (xs : List Bool) : fill xs 0 = List.replicate xs.length false := by unfold fill; simp

theorem all_false {s : ByteArray} {k : Nat} (h : k < s.size) (h2 : okc s[k] = false) : (B s).all okc = false := by
  rw [List.all_eq_false]
  exact ⟨s[k], List.mem_of_getElem? (getB s k h), by simp [h2]⟩
theorem all_succ {s : ByteArray} {k : Nat} (h : k < s.size) (h1 : ((B s).take k).all okc = true) (h2 : okc s[k] = true) : ((B s).take (k + 1)).all okc = true := by
  rw [take_snoc (B s) k s[k] (getB s k h), List.all_append, h1]; simp [h2]
/-- What the tests say of a byte, in the walk's spelling. -/
structure Tst (c : UInt8) (a b : Bool) : Prop where
  e0 : ((c.toNat : Int) == 48) = a
  n0 : ((c.toNat : Int) != 48) = !a
  e1 : ((c.toNat : Int) == 49) = b
  n1 : ((c.toNat : Int) != 49) = !b
theorem tst (c : UInt8) : Tst c (c == 48) (c == 49) := by
  have h : ∀ d : UInt8, ((c.toNat : Int) == (d.toNat : Int)) = (c == d) := fun d => by
    rw [Bool.eq_iff_iff, beq_iff_eq, beq_iff_eq]
    exact ⟨fun h => UInt8.toNat.inj (by omega), fun h => by rw [h]⟩
  have h0 := h 48
  have h1 := h 49
  exact ⟨h0, congrArg not h0, h1, congrArg not h1⟩
theorem tst0 {c : UInt8} (h : c = 48) : Tst c true false := by have := tst c; rw [h] at this ⊢; exact this
theorem tst1 {c : UInt8} (h : c = 49) : Tst c false true := by have := tst c; rw [h] at this ⊢; exact this
theorem tst2 {c : UInt8} (h : c ≠ 48) (h' : c ≠ 49) : Tst c false false := by
  have := tst c
  rw [show (c == 48) = false by simpa using h, show (c == 49) = false by simpa using h'] at this; exact this

set_option maxHeartbeats 800000 in
theorem parse_long (s : ByteArray) (h : 16384 < s.size) (w : World) : Calls Try.prog 11 #[.string s] w (ParPost s w) := by
  have h1 : (16384 : Int) < (s.size : Int) := by omega
  have HP := Lib.hid (px_long h)
  go_enter Try.func11, Try.ntmps11
  go_wp2
  go_ret2
  exact parPost_none HP.out (Nx.refl _)
set_option maxHeartbeats 800000 in
theorem parse_dash (w : World) : Calls Try.prog 11 #[.string ⟨#[45]⟩] w (ParPost ⟨#[45]⟩ w) := by
  have HP := Lib.hid (px_dash (s := ⟨#[45]⟩) rfl)
  have he : ((ByteArray.mk #[45]).toList == [45]) = true := by rw [ByteArray.toList_eq]; rfl
  go_enter Try.func11, Try.ntmps11
  go_wp2
  go_ret2
  exact parPost_none HP.out (Nx.refl _)
set_option maxHeartbeats 800000 in
theorem parse_nil (w : World) : Calls Try.prog 11 #[.string ⟨#[]⟩] w (ParPost ⟨#[]⟩ w) := by
  have HP := Lib.hid (px_nil (s := ⟨#[]⟩) rfl)
  have he : ((ByteArray.mk #[]).toList == [45]) = false := by rw [ByteArray.toList_eq]; rfl
  have he' : (ByteArray.mk #[]).toList.isEmpty = true := by rw [ByteArray.toList_eq]; rfl
  go_enter Try.func11, Try.ntmps11
  go_wp2
  go_ret2
  exact parPost_none HP.out (Nx.refl _)
set_option maxHeartbeats 1600000 in
theorem parse_main (s : ByteArray) (n : Nat) (hn : s.size = n) (h0 : 0 < n) (h1 : n ≤ 16384) (h2 : B s ≠ [45]) (w : World) : Calls Try.prog 11 #[.string s] w (ParPost s w) := by
  have hmk := run_make_row' (P := Try.prog) 22 4 (.bool false) 1 Try.underlying22 info4 rfl .i64 .i64 s.size (by omega) (by omega)
  have hd : (s.toList == [45]) = false := by rw [ByteArray.toList_eq, beq_eq_false_iff_ne]; exact h2
  have he : s.toList.isEmpty = false := by rw [isEmptyB, hn]; exact decide_eq_false (by omega)
  have HX := Lib.hid (show ((B s).map bt).length = s.size by rw [List.length_map, size_B])
  have H2 := Lib.hid h2
  have b1 : (s.size : Int) ≤ 16384 := by omega
  have b0 : 0 < s.size := by omega
  subst hn
  clear h2
  go_enter Try.func11, Try.ntmps11
  go_wp2
  go_loopw [18] (fun i wr => ∃ k : Nat, k ≤ s.size ∧ i = .int .i64 k ∧ ((B s).take k).all okc = true ∧ OwB wr w.heap.size w.heap.size s.size (fill ((B s).map bt) k) ∧ Nx w wr) (fun i _ => s.size - (intOf i).toNat)
  case atStart =>
    refine ⟨0, Nat.zero_le _, rfl, rfl, ?_, Nx.one _ _⟩
    rw [fill_zero, HX.out]
    refine own_of_block (by simp) (Nat.le_refl _) ?_ (by omega)
    rw [show bools (List.replicate s.size false) = List.replicate s.size (Value.bool false) by simp [bools], ← toList_madeCells_one]
    exact heap_alloc_new w _
  case round =>
    obtain ⟨k, hk, rfl, hall, hown, hnx⟩ := hrel
    have HN := Lib.hid hnx
    have HO := Lib.hid hown
    have HA := Lib.hid hall
    by_cases hlt : k < s.size
    · have g1 := hown.cell (fill_at (xs := (B s).map bt) (by rw [HX.out]; exact hlt))
      have g2 := hown.frozen k
      have HF := Lib.hid (fill_step (xs := (B s).map bt) (k := k) (b := bt s[k]) (by rw [List.getElem?_map, getB s k hlt]; rfl))
      clear hown hnx hall
      by_cases c0 : s[k] = 48
      · obtain ⟨e0, n0, e1, n1⟩ := tst0 c0
        have HK := Lib.hid (all_succ hlt HA.out (by unfold okc; rw [c0]; rfl))
        have HB := Lib.hid (show bt s[k] = false by rw [c0]; rfl)
        clear c0
        go_wp2
        go_roundw
        case rel => exact ⟨k + 1, by omega, by go_num, HK.out, by rw [← HF.out, HB.out]; exact HO.out.set k false, HN.out.setCell (Nat.le_refl _) _⟩
        case measure => simp [intOf]; omega
      · by_cases c1 : s[k] = 49
        · obtain ⟨e0, n0, e1, n1⟩ := tst1 c1
          have HK := Lib.hid (all_succ hlt HA.out (by unfold okc; rw [c1]; rfl))
          have HB := Lib.hid (show bt s[k] = true by rw [c1]; rfl)
          clear c0 c1
          go_wp2
          go_roundw
          case rel => exact ⟨k + 1, by omega, by go_num, HK.out, by rw [← HF.out, HB.out]; exact HO.out.set k true, HN.out.setCell (Nat.le_refl _) _⟩
          case measure => simp [intOf]; omega
        · obtain ⟨e0, n0, e1, n1⟩ := tst2 c0 c1
          have HP := Lib.hid (px_bad h1 H2.out (all_false hlt (by unfold okc; simp [c0, c1])))
          clear c0 c1
          go_wp2
          go_ret2
          exact parPost_none HP.out HN.out
    · have HP := Lib.hid (parPost_row (n := s.size) rfl h1 H2.out (by omega) (by rw [List.take_of_length_le (by rw [size_B]; omega)] at hall; exact hall) (by rw [show k = ((B s).map bt).length by rw [HX.out]; omega, fill_all] at hown; exact hown) hnx)
      clear hown hnx hall
      go_wp2
      go_ret2
      exact HP.out
end Go.Proofs.Ytndoadkkcmaocaa
