/- What image.Format and the reference's Format return. Conditions: slices whose cells read as a list of bools, of at most a million. -/
import Derived.Test.YtndapcbjcannhaaIA
import Derived.Deep.OwnRows
import Derived.Laws.IdiomStrings
namespace Go.Proofs.Ytndapcbjcannhaa
open Go.RowKit

theorem info5 : (Try.prog.info? 5).map (fun i => (i.zero, i.size, i.bytes)) = some (some (.int .u8 0), 1, 1) := by kernel_rfl
theorem info4 : (Try.prog.info? 4).map (fun i => (i.zero, i.size, i.bytes)) = some (some (.bool false), 1, 1) := by kernel_rfl
theorem info3 : (Try.prog.info? 3).map (fun i => (i.zero, i.size, i.bytes)) = some (some (.int .i64 0), 1, 8) := by kernel_rfl

def dg (b : Bool) : UInt8 := if b then 49 else 48
theorem dig_dg (b : Bool) : dig b = ((dg b).toNat : Int) := by cases b <;> rfl
/-- The text of an image. -/
def tx (xs : List Bool) : ByteArray := ⟨(xs.map dg).toArray⟩
def txt (xs : List Bool) : ByteArray := if xs.isEmpty then ⟨#[45]⟩ else tx xs
theorem txt_nil {xs : List Bool} (h : xs.length = 0) : txt xs = ⟨#[45]⟩ := by
  obtain rfl := List.eq_nil_of_length_eq_zero h; rfl
theorem txt_pos {xs : List Bool} (h : 0 < xs.length) : txt xs = tx xs := by
  cases xs with
  | nil => simp at h
  | cons a l => rfl
theorem getD_some {xs : List Bool} {k : Nat} {b : Bool} (h : xs[k]? = some b) : xs.getD k false = b := by simp [List.getD, h]

def row (xs : List Bool) (k : Nat) : Nat → Value := fun j => .int .u8 (if j < k then dig (xs.getD j false) else 0)
theorem row_step (xs : List Bool) (k n : Nat) (b : Bool) (hb : xs[k]? = some b) (j : Nat) (_ : j < n) : (if j = k then Value.int .u8 (dig b) else row xs k j) = row xs (k + 1) j := by
  unfold row
  by_cases h : j = k
  · subst h; rw [if_pos rfl, if_pos (by omega), getD_some hb]
  · rw [if_neg h]
    by_cases h2 : j < k
    · rw [if_pos h2, if_pos (by omega)]
    · rw [if_neg h2, if_neg (by omega)]

theorem conv_row (xs : List Bool) (B : Nat) (wr : World) (h : wr.rowIs B 5 xs.length (fun j => .int .u8 (dig (xs.getD j false)))) :
    (convert 78 9 (.slice (some ⟨B, 0, none⟩) xs.length xs.length)).run Try.prog wr = .ok (.string (tx xs)) wr := by
  have e : (xs.map dg).length = xs.length := List.length_map _
  have := run_convert_bytes_back (P := Try.prog) wr 78 9 5 ⟨B, 0, none⟩ xs.length (xs.map dg) Try.underlying78 Try.underlying5 Try.underlying9 (fun j hj => by
    rw [e] at hj
    have := h.cell hj
    rw [Addr.add_lit]
    simp only [Nat.zero_add]
    rw [this]
    simp only [List.getElem_map, ← dig_dg]
    congr 3
    simp [List.getD, hj])
  rw [e] at this
  exact this

set_option maxHeartbeats 800000 in
theorem format_pos (A : Option Addr) (xs : List Bool) (c : Nat) (hp : 0 < xs.length) (hl : xs.length ≤ 1000000) (w : World) (hr : Rd w A xs) :
    Calls Try.prog 32 #[.slice A xs.length c] w fun e w' => e = .returned (.string (tx xs)) ∧ Nx w w' := by
  have HR := Lib.hid hr
  clear hr
  have hmk := run_make_row' (P := Try.prog) 78 5 (.int .u8 0) 1 Try.underlying78 info5 rfl .i64 .i64 xs.length (by omega) (by omega)
  have hz : ((xs.length : Int) == 0) = false := by rw [beq_eq_false_iff_ne]; omega
  go_enter Try.func32, Try.ntmps32
  go_wp2
  go_loopw [13] (fun i wr => ∃ k : Nat, k ≤ xs.length ∧ i = .int .i64 k ∧ wr.rowIs w.heap.size 5 xs.length (row xs k) ∧ Nx w wr) (fun i _ => xs.length - (intOf i).toNat)
  case atStart =>
    exact ⟨0, Nat.zero_le _, rfl, (World.rowIs_made w (.int .u8 0) xs.length 5).congr (fun i hi => by simp [row]), Nx.one _ _⟩
  case round =>
    obtain ⟨k, hk, rfl, hrow, hnx⟩ := hrel
    have HN := Lib.hid hnx
    have HW := Lib.hid hrow
    by_cases hlt : k < xs.length
    · obtain ⟨b, hb⟩ := at_some xs k hlt
      obtain ⟨ad, rfl, hc⟩ := (HR.out.nx hnx) k b hb
      have h1 := hrow.cell hlt
      have h2 := hrow.frozen k
      have HB := Lib.hid hb
      have HS := Lib.hid ((hrow.set k (.int .u8 (dig b))).congr (row_step xs k xs.length b hb))
      clear hb hrow hnx
      generalize hd : dig b = d at *
      have HD := Lib.hid hd
      clear hd
      go_wp2_with (go_at_call 39; refine (digit_any _ _).mono ?_; rw [HD.out]; rintro e w' ⟨rfl, rfl⟩)
      go_roundw
      case rel => exact ⟨k + 1, by omega, by go_num, HS.out, HN.out.setCell (Nat.le_refl _) _⟩
      case measure => simp [intOf]; omega
    · have hrow' : wr.rowIs w.heap.size 5 xs.length (fun j => .int .u8 (dig (xs.getD j false))) := hrow.congr (fun j hj => by unfold row; rw [if_pos (by omega)])
      have hcv := conv_row xs w.heap.size wr hrow'
      clear hrow hrow'
      go_wp2
      go_ret
      exact ⟨rfl, HN.out⟩
theorem format_nil (A : Option Addr) (c : Nat) (w : World) :
    Calls Try.prog 32 #[.slice A 0 c] w fun e w' => e = .returned (.string ⟨#[45]⟩) ∧ Nx w w' := by
  go_enter Try.func32, Try.ntmps32
  go_wp2
  go_ret
  exact ⟨rfl, Nx.refl _⟩
theorem format_any (A : Option Addr) (xs : List Bool) (c : Nat) (hl : xs.length ≤ 1000000) (w : World) (hr : Rd w A xs) :
    Calls Try.prog 32 #[.slice A xs.length c] w fun e w' => e = .returned (.string (txt xs)) ∧ Nx w w' := by
  by_cases h : xs.length = 0
  · rw [txt_nil h, h]; exact format_nil A c w
  · rw [txt_pos (by omega)]; exact format_pos A xs c (by omega) hl w hr

theorem tx_take (xs : List Bool) (k : Nat) (b : Bool) (hb : xs[k]? = some b) : tx (xs.take (k + 1)) = tx (xs.take k) ++ ⟨#[dg b]⟩ := by
  rw [take_snoc xs k b hb]
  unfold tx
  apply ByteArray.ext
  simp
theorem size_tx (xs : List Bool) : (tx xs).size = xs.length := by unfold tx; show ((xs.map dg).toArray).size = _; simp
theorem tx_toList (xs : List Bool) : (tx xs).toList = xs.map dg := by rw [ByteArray.toList_eq]; rfl

set_option maxHeartbeats 800000 in
theorem refFormat_pos (A : Option Addr) (xs : List Bool) (c : Nat) (hp : 0 < xs.length) (hl : xs.length ≤ 1000000) (w : World) (hr : Rd w A xs) :
    Calls Try.prog 34 #[.slice A xs.length c] w fun e w' => e = .returned (.string (tx xs)) ∧ w = w' := by
  have HR := Lib.hid hr
  clear hr
  go_enter Try.func34, Try.ntmps34
  go_wp2
  go_loop [3, 4] (fun s i => ∃ k : Nat, k ≤ xs.length ∧ i = .int .i64 k ∧ s = .string (tx (xs.take k))) (fun _ i => xs.length - (intOf i).toNat)
  case atStart => exact ⟨0, Nat.zero_le _, rfl, rfl⟩
  case round =>
    obtain ⟨k, hk, rfl, rfl⟩ := hrel
    have hsz := size_tx (xs.take k)
    by_cases hlt : k < xs.length
    · obtain ⟨b, hb⟩ := at_some xs k hlt
      obtain ⟨ad, rfl, hc⟩ := HR.out k b hb
      have HS := Lib.hid (tx_take xs k b hb)
      have h2 : (tx (xs.take k)).size ≤ 1000000 := by rw [hsz]; have := List.length_take_le k xs; omega
      clear hb hsz
      generalize tx (xs.take k) = s at *
      have hcat : ∀ (w : World) (t : ByteArray), t.size = 1 → (Op.stringOp .add s t).run Try.prog w = .ok (.string (s ++ t)) w := fun w t ht => run_string_add_sum w _ _ (by omega)
      have hc1 := fun w => hcat w ⟨#[49]⟩ rfl
      have hc0 := fun w => hcat w ⟨#[48]⟩ rfl
      clear hcat
      cases b
      all_goals
        go_wp2
        go_round
        case rel => exact ⟨k + 1, by omega, by go_num, by rw [HS.out]; rfl⟩
        case measure => simp [intOf]; omega
    · rw [List.take_of_length_le (by omega)] at *
      have he' : (tx xs).toList.isEmpty = false := by
        rw [tx_toList, List.isEmpty_eq_false_iff]; intro e; have := congrArg List.length e; simp at this; rw [this] at hp; simp at hp
      go_wp2
      go_ret
      exact ⟨rfl, rfl⟩
set_option maxHeartbeats 400000 in
theorem refFormat_nil (A : Option Addr) (c : Nat) (w : World) :
    Calls Try.prog 34 #[.slice A 0 c] w fun e w' => e = .returned (.string ⟨#[45]⟩) ∧ w = w' := by
  have he' : (ByteArray.mk #[]).toList.isEmpty = true := by rw [ByteArray.toList_eq]; rfl
  go_enter Try.func34, Try.ntmps34
  go_wp2
  go_rounds 1
  go_ret
  exact ⟨rfl, rfl⟩
theorem refFormat_any (A : Option Addr) (xs : List Bool) (c : Nat) (hl : xs.length ≤ 1000000) (w : World) (hr : Rd w A xs) :
    Calls Try.prog 34 #[.slice A xs.length c] w fun e w' => e = .returned (.string (txt xs)) ∧ w = w' := by
  by_cases h : xs.length = 0
  · rw [txt_nil h, h]; exact refFormat_nil A c w
  · rw [txt_pos (by omega)]; exact refFormat_pos A xs c (by omega) hl w hr
end Go.Proofs.Ytndapcbjcannhaa
