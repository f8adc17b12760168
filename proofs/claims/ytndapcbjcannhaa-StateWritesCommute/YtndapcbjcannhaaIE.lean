/- What image.Set and the reference's Set return. Conditions: a slice whose cells read as a list of bools, of at most a million. -/
import Derived.Test.YtndapcbjcannhaaID
import Derived.Laws.CopyOwn
import Derived.Deep.AppendLies
namespace Go.Proofs.Ytndapcbjcannhaa
open Go.RowKit

theorem set_no (A : Option Addr) (m c : Nat) (n : Int) (v : Bool) (h : ¬ (0 ≤ n ∧ n < m)) (w : World) :
    Calls Try.prog 37 #[.slice A m c, .int .i64 n, .bool v] w fun e w' => e = .returned (.tuple #[.slice none 0 0, .int .i64 3]) ∧ w = w' := by
  have HI := Lib.hid (show isIdx n m = false from decide_eq_false h)
  clear h
  go_enter Try.func37, Try.ntmps37
  go_wp2_with (go_at_call 43; refine (isIndex_any _ _ _ _ _).mono ?_; rw [HI.out]; rintro e w' ⟨rfl, rfl⟩)
  go_ret2
  exact ⟨rfl, rfl⟩

/-- An own row of bools. -/
def OwB (w : World) (base g c : Nat) (xs : List Bool) : Prop := w.ownsRow base 4 1 (.slice (some ⟨g, 0, none⟩) xs.length c) xs.length (bools xs)
theorem OwB.rd {w : World} {base g c : Nat} {xs : List Bool} (h : OwB w base g c xs) : Rd w (some ⟨g, 0, none⟩) xs := fun k b hk =>
  ⟨_, rfl, (World.ownsRow.cells h (g := g) rfl) k _ (by simp [bools, hk])⟩
theorem OwB.cell {w : World} {base g c : Nat} {xs : List Bool} (h : OwB w base g c xs) {k : Nat} {b : Bool} (hk : xs[k]? = some b) : w.cell? ⟨g, k, none⟩ = some (.bool b) := by
  have hlt : k < xs.length := (List.getElem?_eq_some_iff.1 hk).1
  rw [World.ownsRow.cellAt h k (by omega)]; simp [bools, hk]
theorem OwB.frozen {w : World} {base g c : Nat} {xs : List Bool} (h : OwB w base g c xs) (k : Nat) : w.frozen? ⟨g, k, none⟩ = false := World.ownsRow.frozenAt h k
theorem OwB.set {w : World} {base g c : Nat} {xs : List Bool} (h : OwB w base g c xs) (k : Nat) (b : Bool) : OwB (w.setCell ⟨g, k, none⟩ (.bool b)) base g c (xs.set k b) := by
  have := (World.ownsRow.stored h k (.bool b)).1
  unfold OwB
  rw [List.length_set, show bools (xs.set k b) = (bools xs).set k (.bool b) by simp [bools, List.map_set]]
  exact this
theorem OwB.base_le {w : World} {base g c : Nat} {xs : List Bool} (h : OwB w base g c xs) : base ≤ g := (World.ownsRow.lt h g rfl).1
theorem OwB.nx {w w' : World} {base g c : Nat} {xs : List Bool} (h : OwB w base g c xs) (k : Nx w w') : OwB w' base g c xs :=
  World.ownsRow.kept h (row := none) ⟨k.os, k.tape, k.output, k.size, fun i hi _ => k.block i hi⟩ (Or.inr (by simp [Value.ownBlock]))

def SetPost (xs : List Bool) (w : World) (e : Ending) (w' : World) : Prop :=
  ∃ g c, e = .returned (.tuple #[.slice (some ⟨g, 0, none⟩) xs.length c, .int .i64 0]) ∧ OwB w' w.heap.size g c xs ∧ Nx w w'

theorem bools_length (xs : List Bool) : (bools xs).length = xs.length := by simp [bools]
theorem own_of_block {w : World} {g base m : Nat} {xs : List Bool} (hm : xs.length = m) (hb : base ≤ g) (h : w.heap[g]? = some (.cells (bools xs).toArray 4 (0, 0))) (hl : m ≤ 1000000) : OwB w base g m xs := by
  subst hm
  refine ⟨by simp [bools], .inr ⟨g, xs.length, (bools xs).toArray, rfl, hb, h, Nat.le_refl _, by unfold maxLen; omega, by simp [bools], by simp [bools, List.take_of_length_le]⟩⟩
theorem splice_all (m : Nat) (xs : List Bool) (h : xs.length = m) : splice (List.replicate m (Value.bool false)) 0 (bools xs) = bools xs := by
  unfold splice; simp [bools, h]

set_option maxHeartbeats 1600000 in
theorem set_ok (A : Option Addr) (xs : List Bool) (m c n : Nat) (v : Bool) (hx : xs.length = m) (hn : n < m) (hl : m ≤ 1000000) (w : World) (hr : Rd w A xs) :
    Calls Try.prog 37 #[.slice A m c, .int .i64 n, .bool v] w (SetPost (xs.set n v) w) := by
  have HI := Lib.hid (show isIdx (n : Int) m = true from decide_eq_true (by omega))
  have hmk := run_make_row' (P := Try.prog) 24 4 (.bool false) 1 Try.underlying24 info4 rfl .i64 .i64 m (by omega) (by omega)
  have HR := Lib.hid hr
  have HX := Lib.hid hx
  obtain ⟨b, hb⟩ := at_some xs n (by rw [hx]; exact hn)
  obtain ⟨ad0, hA, _⟩ := hr n b hb
  subst hA
  have HB := Lib.hid hb
  have hsz : (Try.prog.info? 4).map (·.size) = some 1 := by kernel_rfl
  have HSZ := Lib.hid hsz
  have hsrc : ∀ j u, (bools xs)[j]? = some u → (w.alloc (.cells (madeCells #[.bool false] m) 4)).cell? (ad0.add j) = some u := by
    intro j u hj
    simp only [bools, List.getElem?_map, Option.map_eq_some_iff] at hj
    obtain ⟨x, hx1, rfl⟩ := hj
    obtain ⟨ad, e, hc⟩ := (hr.nx (Nx.one _ _)) j x hx1
    obtain rfl := Option.some.inj e
    exact hc
  have HSRC := Lib.hid hsrc
  have HBL := Lib.hid (show (w.alloc (.cells (madeCells #[.bool false] m) 4)).heap[w.heap.size]? = some (.cells (List.replicate m (Value.bool false)).toArray 4 (0, 0)) by
    rw [← toList_madeCells_one]; exact heap_alloc_new w _)
  clear hr hx hb hsz hsrc
  go_enter Try.func37, Try.ntmps37
  go_wp2_with (first
    | (go_at_call 43; refine (isIndex_any _ _ _ _ _).mono ?_; rw [HI.out]; rintro e w' ⟨rfl, rfl⟩)
    | (refine wpList_copy_splice rfl (.tmp 16) (.tmp 17) 24 24 rfl 4 Try.underlying24 HSZ.out (some ⟨w.heap.size, 0, none⟩) (some ad0) m m m c rfl rfl w.heap.size 0 (List.replicate m (Value.bool false)) 4 HBL.out (bools xs) (by rw [bools_length, HX.out]; simp) (fun _ => ⟨rfl, ad0, rfl, HSRC.out⟩) (by rw [bools_length, HX.out, List.length_replicate]; omega) (bools_one xs) w.heap.size w (Below.alloc (Below.refl _ _) (Nat.le_refl _) _) (Nat.le_refl _) ?_
       intro w2 hg2 hb2
       have HO := Lib.hid (own_of_block (base := w.heap.size) HX.out (Nat.le_refl _) (by have := hg2.out; rwa [splice_all m xs HX.out] at this) hl)
       have HN := Lib.hid (show Nx w w2 from hb2)
       have h1 := HO.out.cell HB.out
       have h2 := HO.out.frozen n
       clear hg2 hb2))
  go_ret2
  refine ⟨w.heap.size, m, ?_, HO.out.set n v, HN.out.setCell (Nat.le_refl _) _⟩
  rw [List.length_set, HX.out]
  rfl

def RefSetPost (xs : List Bool) (w : World) (e : Ending) (w' : World) : Prop :=
  ∃ g c, e = .returned (.slice (some ⟨g, 0, none⟩) xs.length c) ∧ OwB w' w.heap.size g c xs ∧ Nx w w'
theorem src_of {w : World} {ad0 : Addr} {xs : List Bool} (hr : Rd w (some ad0) xs) : ∀ j u, (bools xs)[j]? = some u → w.cell? (ad0.add j) = some u := by
  intro j u hj
  simp only [bools, List.getElem?_map, Option.map_eq_some_iff] at hj
  obtain ⟨x, hx1, rfl⟩ := hj
  obtain ⟨ad, e, hc⟩ := hr j x hx1
  obtain rfl := Option.some.inj e
  exact hc
theorem owB_form {w : World} {base n : Nat} {v : Value} {xs : List Bool} (h : w.ownsRow base 4 1 v n (bools xs)) (hn : 0 < xs.length) : ∃ g c, v = .slice (some ⟨g, 0, none⟩) xs.length c ∧ OwB w base g c xs := by
  have he : n = xs.length := by have := h.1; simpa [bools] using this.symm
  subst he
  obtain ⟨g, c, rfl, _⟩ := h.form hn
  exact ⟨g, c, rfl, h⟩

end Go.Proofs.Ytndapcbjcannhaa
