/- The distinct targets in ascending order: sorted and compacted, or inserted one by one: the same list. No condition. -/
import Derived.Test.YtdpccnpaajhliaaDoorIN1
import Derived.Sort.OwnSortedInts
import Derived.Lib.SlicesCompact
namespace Go.Proofs.YtdpccnpaajhliaaDoor
open Go.RowKit

theorem inc_ext : ∀ {a b : List Int}, a.Pairwise (· < ·) → b.Pairwise (· < ·) → (∀ x, x ∈ a ↔ x ∈ b) → a = b := by
  intro a
  induction a with
  | nil =>
    intro b _ _ h
    cases b with
    | nil => rfl
    | cons y l => exact absurd ((h y).2 (List.mem_cons_self ..)) (by simp)
  | cons x a ih =>
    intro b ha hb h
    cases b with
    | nil => exact absurd ((h x).1 (List.mem_cons_self ..)) (by simp)
    | cons y b =>
      obtain ⟨ha1, ha2⟩ := List.pairwise_cons.1 ha
      obtain ⟨hb1, hb2⟩ := List.pairwise_cons.1 hb
      have hxy : x = y := by
        rcases List.mem_cons.1 ((h x).1 (List.mem_cons_self ..)) with e | e
        · exact e
        · rcases List.mem_cons.1 ((h y).2 (List.mem_cons_self ..)) with e2 | e2
          · exact e2.symm
          · have := hb1 x e; have := ha1 y e2; omega
      subst hxy
      congr 1
      refine ih ha2 hb2 fun z => ⟨fun hz => ?_, fun hz => ?_⟩
      · rcases List.mem_cons.1 ((h z).1 (List.mem_cons_of_mem _ hz)) with e | e
        · have := ha1 z hz; omega
        · exact e
      · rcases List.mem_cons.1 ((h z).2 (List.mem_cons_of_mem _ hz)) with e | e
        · have := hb1 z hz; omega
        · exact e
theorem cmp_upto (d : Array Int) (hs : ∀ i j, i ≤ j → j < d.size → d[i]! ≤ d[j]!) : ∀ m, m ≤ d.size →
    (Lib.compactUpTo d m).Pairwise (· < ·) ∧ (∀ x, x ∈ Lib.compactUpTo d m ↔ ∃ j, j < m ∧ d[j]! = x) := by
  intro m
  induction m with
  | zero => intro _; exact ⟨by simp [Lib.compactUpTo], fun x => by simp [Lib.compactUpTo]⟩
  | succ m ih =>
    intro hm
    obtain ⟨h1, h2⟩ := ih (by omega)
    rw [Lib.compactUpTo_succ]
    by_cases hk : Lib.keeps d m = true
    · rw [if_pos hk]
      have hlt : ∀ x, x ∈ Lib.compactUpTo d m → x < d[m]! := fun x hx => by
        obtain ⟨j, hj, rfl⟩ := (h2 x).1 hx
        have hk' : m = 0 ∨ d[m]! ≠ d[m - 1]! := by simpa [Lib.keeps] using hk
        have h3 := hs j (m - 1) (by omega) (by omega)
        have h4 := hs (m - 1) m (by omega) (by omega)
        rcases hk' with h | h <;> omega
      refine ⟨List.pairwise_append.2 ⟨h1, by simp, fun x hx y hy => by rw [List.mem_singleton] at hy; subst hy; exact hlt x hx⟩, fun x => ?_⟩
      rw [List.mem_append, h2, List.mem_singleton]
      constructor
      · rintro (⟨j, hj, e⟩ | e)
        · exact ⟨j, by omega, e⟩
        · exact ⟨m, by omega, e.symm⟩
      · rintro ⟨j, hj, e⟩
        by_cases hjm : j = m
        · subst hjm; exact .inr e.symm
        · exact .inl ⟨j, by omega, e⟩
    · rw [if_neg hk, List.append_nil]
      refine ⟨h1, fun x => ?_⟩
      rw [h2]
      have hk' : ¬ (m = 0 ∨ d[m]! ≠ d[m - 1]!) := by simpa [Lib.keeps] using hk
      constructor
      · rintro ⟨j, hj, e⟩; exact ⟨j, by omega, e⟩
      · rintro ⟨j, hj, e⟩
        by_cases hjm : j = m
        · subst hjm
          have h5 : d[j]! = d[j - 1]! := by
            by_cases h : d[j]! = d[j - 1]!
            · exact h
            · exact absurd (Or.inr h) hk'
          exact ⟨j - 1, by omega, h5.symm.trans e⟩
        · exact ⟨j, by omega, e⟩
theorem cmp_spec {zs : List Int} (h : zs.Pairwise (· ≤ ·)) : (Lib.compact zs).Pairwise (· < ·) ∧ ∀ x, x ∈ Lib.compact zs ↔ x ∈ zs := by
  have hs : ∀ i j, i ≤ j → j < zs.toArray.size → zs.toArray[i]! ≤ zs.toArray[j]! := fun i j hij hj => by
    have hj' : j < zs.length := by simpa using hj
    rw [getElem!_pos zs.toArray i (by simp; omega), getElem!_pos zs.toArray j hj]
    simp only [List.getElem_toArray]
    rcases Nat.lt_or_ge i j with h1 | h1
    · exact List.pairwise_iff_getElem.1 h i j (by omega) hj' h1
    · obtain rfl : i = j := by omega
      exact Int.le_refl _
  obtain ⟨h1, h2⟩ := cmp_upto zs.toArray hs zs.length (by simp)
  refine ⟨h1, fun x => (h2 x).trans ⟨?_, fun hx => ?_⟩⟩
  · rintro ⟨j, hj, e⟩
    rw [getElem!_pos zs.toArray j (by simpa using hj)] at e
    rw [← e]; simp
  · obtain ⟨j, hj, e⟩ := List.getElem_of_mem hx
    exact ⟨j, hj, by rw [getElem!_pos zs.toArray j (by simpa using hj)]; simpa using e⟩

/-- The place of x: how many at the head are less. -/
def pos (l : List Int) (x : Int) : Nat := (l.takeWhile (fun y => decide (y < x))).length
theorem pos_le (l : List Int) (x : Int) : pos l x ≤ l.length := (List.takeWhile_prefix _).length_le
theorem pos_is {l : List Int} {x : Int} : ∀ {k : Nat}, k ≤ l.length → (∀ j y, j < k → l[j]? = some y → y < x) → (∀ y, l[k]? = some y → ¬ y < x) → k = pos l x := by
  induction l with
  | nil => intro k hk _ _; simp [pos] at hk ⊢; omega
  | cons a l ih =>
    intro k hk h1 h2
    cases k with
    | zero =>
      have := h2 a rfl
      unfold pos
      rw [List.takeWhile_cons_of_neg (by simpa using this)]
      rfl
    | succ k =>
      have ha := h1 0 a (by omega) rfl
      unfold pos
      rw [List.takeWhile_cons_of_pos (by simpa using ha), List.length_cons]
      congr 1
      exact ih (by simpa using hk) (fun j y hj hy => h1 (j + 1) y (by omega) (by simpa using hy)) (fun y hy => h2 y (by simpa using hy))
def insD (l : List Int) (x : Int) : List Int := if l[pos l x]? = some x then l else l.take (pos l x) ++ [x] ++ l.drop (pos l x)
theorem pos_cons_lt {a x : Int} {l : List Int} (h : a < x) : pos (a :: l) x = pos l x + 1 := by
  unfold pos; rw [List.takeWhile_cons_of_pos (by simpa using h)]; rfl
theorem pos_cons_ge {a x : Int} {l : List Int} (h : ¬ a < x) : pos (a :: l) x = 0 := by
  unfold pos; rw [List.takeWhile_cons_of_neg (by simpa using h)]; rfl
theorem insD_spec {l : List Int} (x : Int) (h : l.Pairwise (· < ·)) : (insD l x).Pairwise (· < ·) ∧ ∀ y, y ∈ insD l x ↔ y = x ∨ y ∈ l := by
  induction l with
  | nil => exact ⟨by simp [insD, pos], fun y => by simp [insD, pos]⟩
  | cons a l ih =>
    obtain ⟨h1, h2⟩ := List.pairwise_cons.1 h
    obtain ⟨i1, i2⟩ := ih h2
    by_cases hlt : a < x
    · have e : insD (a :: l) x = a :: insD l x := by
        unfold insD
        rw [pos_cons_lt hlt, List.getElem?_cons_succ]
        split
        · rfl
        · simp
      rw [e]
      refine ⟨List.pairwise_cons.2 ⟨fun y hy => ?_, i1⟩, fun y => ?_⟩
      · rcases (i2 y).1 hy with e | e
        · omega
        · exact h1 y e
      · rw [List.mem_cons, List.mem_cons, i2]
        constructor
        · rintro (h | h | h)
          · exact .inr (.inl h)
          · exact .inl h
          · exact .inr (.inr h)
        · rintro (h | h | h)
          · exact .inr (.inl h)
          · exact .inl h
          · exact .inr (.inr h)
    · unfold insD
      rw [pos_cons_ge hlt]
      simp only [List.getElem?_cons_zero, Option.some.injEq, List.take_zero, List.nil_append, List.drop_zero]
      by_cases he : a = x
      · rw [if_pos he]
        subst he
        exact ⟨h, fun y => by simp⟩
      · rw [if_neg he]
        refine ⟨List.pairwise_cons.2 ⟨fun y hy => ?_, h⟩, fun y => by simp⟩
        rcases List.mem_cons.1 hy with e | e
        · omega
        · have := h1 y e; omega
/-- The jumps' targets among the first instructions. -/
def tgs (code : List In4) (k : Nat) : List Int := ((code.take k).filter (fun x => decide (x.op = 15))).map (·.t)
theorem tgs_zero (code : List In4) : tgs code 0 = [] := rfl
theorem tgs_yes {code : List In4} {k : Nat} {x : In4} (h : code[k]? = some x) (ho : x.op = 15) : tgs code (k + 1) = tgs code k ++ [x.t] := by
  unfold tgs; rw [List.take_add_one, h]; simp [ho]
theorem tgs_no {code : List In4} {k : Nat} {x : In4} (h : code[k]? = some x) (ho : x.op ≠ 15) : tgs code (k + 1) = tgs code k := by
  unfold tgs; rw [List.take_add_one, h]; simp [ho]
theorem tgs_len (code : List In4) (k : Nat) : (tgs code k).length ≤ k := by
  unfold tgs; rw [List.length_map]
  exact Nat.le_trans (List.length_filter_le _ _) (List.length_take_le _ _)
def tgR (code : List In4) (k : Nat) : List Int := (tgs code k).foldl insD []
theorem tgR_yes {code : List In4} {k : Nat} {x : In4} (h : code[k]? = some x) (ho : x.op = 15) : tgR code (k + 1) = insD (tgR code k) x.t := by
  unfold tgR; rw [tgs_yes h ho, List.foldl_append]; rfl
theorem tgR_no {code : List In4} {k : Nat} {x : In4} (h : code[k]? = some x) (ho : x.op ≠ 15) : tgR code (k + 1) = tgR code k := by
  unfold tgR; rw [tgs_no h ho]
theorem ins_all (l : List Int) : ∀ {a : List Int}, a.Pairwise (· < ·) → (l.foldl insD a).Pairwise (· < ·) ∧ ∀ y, y ∈ l.foldl insD a ↔ y ∈ a ∨ y ∈ l := by
  induction l with
  | nil => intro a h; exact ⟨h, fun y => by simp⟩
  | cons x l ih =>
    intro a h
    obtain ⟨h1, h2⟩ := insD_spec x h
    obtain ⟨i1, i2⟩ := ih h1
    refine ⟨i1, fun y => ?_⟩
    rw [List.foldl_cons, i2, h2, List.mem_cons]
    constructor
    · rintro ((h | h) | h)
      · exact .inr (.inl h)
      · exact .inl h
      · exact .inr (.inr h)
    · rintro (h | h | h)
      · exact .inl (.inr h)
      · exact .inl (.inl h)
      · exact .inr h
def tgP (code : List In4) : List Int := Lib.compact ((tgs code code.length).mergeSort fun x y => decide (x ≤ y))
theorem tg_same (code : List In4) : tgP code = tgR code code.length := by
  have hp := List.mergeSort_perm (tgs code code.length) (fun x y => decide (x ≤ y))
  have hs : ((tgs code code.length).mergeSort fun x y => decide (x ≤ y)).Pairwise (· ≤ ·) := by
    have := List.pairwise_mergeSort (le := fun x y : Int => decide (x ≤ y)) (fun a b c h1 h2 => by simp at h1 h2 ⊢; omega) (fun a b => by simp; omega) (tgs code code.length)
    exact this.imp (fun h => by simpa using h)
  obtain ⟨h1, h2⟩ := cmp_spec hs
  obtain ⟨i1, i2⟩ := ins_all (tgs code code.length) (a := []) (by simp)
  refine inc_ext h1 i1 fun x => ?_
  exact (h2 x).trans (hp.mem_iff.trans ((i2 x).trans (by simp)).symm)
theorem tgR_len (code : List In4) (k : Nat) : (tgR code k).length ≤ k := by
  have key : ∀ (l a : List Int), (l.foldl insD a).length ≤ a.length + l.length := by
    intro l
    induction l with
    | nil => intro a; simp
    | cons x l ih =>
      intro a
      have h1 : (insD a x).length ≤ a.length + 1 := by
        unfold insD
        split
        · omega
        · simp; have := pos_le a x; omega
      have := ih (insD a x)
      rw [List.foldl_cons, List.length_cons]
      omega
  have := key (tgs code k) []
  have := tgs_len code k
  unfold tgR
  simp at *
  omega
end Go.Proofs.YtdpccnpaajhliaaDoor
