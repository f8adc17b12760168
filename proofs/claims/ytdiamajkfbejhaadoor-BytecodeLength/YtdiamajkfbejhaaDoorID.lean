/- What image.Diff and the reference's Diff return. Conditions: slices whose cells read as lists of bools, of at most a million. -/
import Derived.Test.YtdiamajkfbejhaaDoorIC
namespace Go.Proofs.YtdiamajkfbejhaaDoor
open Go.RowKit

/-- The cells of a slice read as the list of the numbers xs. -/
def RdI (w : World) (A : Option Addr) (xs : List Nat) : Prop := ∀ (k n : Nat), xs[k]? = some n → ∃ ad, A = some ad ∧ w.cell? (ad.add k) = some (.int .i64 n)
theorem RdI.nx {w w' : World} {A : Option Addr} {xs : List Nat} (h : RdI w A xs) (k : Nx w w') : RdI w' A xs := fun i b hi => by
  obtain ⟨ad, e, hc⟩ := h i b hi
  exact ⟨ad, e, k.cell hc⟩
def ints (xs : List Nat) : List Value := xs.map fun (n : Nat) => Value.int .i64 (n : Int)
theorem ints_snoc (xs : List Nat) (n : Nat) : ints (xs ++ [n]) = ints xs ++ [.int .i64 (n : Int)] := by simp [ints]
def bools (xs : List Bool) : List Value := xs.map Value.bool
theorem bools_snoc (xs : List Bool) (b : Bool) : bools (xs ++ [b]) = bools xs ++ [.bool b] := by simp [bools]
theorem bools_one (xs : List Bool) : ∀ u ∈ bools xs, u.oneCell' = true := by
  intro u hu; obtain ⟨b, _, rfl⟩ := List.mem_map.1 hu; rfl

theorem own_drewN {w : World} {base : Nat} {e : TypeId} {size n : Nat} {v : Value} {xs : List Value} (h : w.ownsRow base e size v n xs) (k : Nat) : (w.drewN k).ownsRow base e size v n xs := h
/-- What is owned is a slice. -/
theorem own_form {w : World} {base : Nat} {e : TypeId} {v : Value} {n : Nat} {xs : List Value} (h : w.ownsRow base e 1 v n xs) :
    ∃ A c, v = .slice A n c ∧ ∀ (k : Nat) (u : Value), xs[k]? = some u → ∃ ad, A = some ad ∧ w.cell? (ad.add k) = some u := by
  rcases h.2 with ⟨rfl, rfl⟩ | ⟨g, cap, cur, rfl, h1, h2, h3, h4, h5, h6⟩
  · have hx : xs = [] := List.eq_nil_of_length_eq_zero (by simpa using h.1)
    subst hx
    exact ⟨none, 0, rfl, fun k u hu => by simp at hu⟩
  · exact ⟨some ⟨g, 0, none⟩, cap, rfl, fun k u hu => ⟨_, rfl, h.cells (g := g) rfl k u hu⟩⟩
theorem own_ints {w : World} {base : Nat} {v : Value} {n : Nat} {xs : List Nat} (h : w.ownsRow base 3 1 v n (ints xs)) :
    ∃ A c, v = .slice A xs.length c ∧ RdI w A xs := by
  obtain ⟨A, c, rfl, hc⟩ := own_form h
  have hn : n = xs.length := by have := h.1; simpa [ints] using this.symm
  subst hn
  exact ⟨A, c, rfl, fun k n hk => hc k _ (by simp [ints, hk])⟩
theorem own_bools {w : World} {base : Nat} {v : Value} {n : Nat} {xs : List Bool} (h : w.ownsRow base 4 1 v n (bools xs)) :
    ∃ A c, v = .slice A xs.length c ∧ Rd w A xs := by
  obtain ⟨A, c, rfl, hc⟩ := own_form h
  have hn : n = xs.length := by have := h.1; simpa [bools] using this.symm
  subst hn
  exact ⟨A, c, rfl, fun k n hk => hc k _ (by simp [bools, hk])⟩
/-- The one cell of a literal of one element. -/
theorem new_one (w : World) (u : Value) (t : TypeId) : ∀ j v, [u][j]? = some v → (w.alloc (.cells #[u] t)).cell? ((⟨w.heap.size, 0, none⟩ : Addr).add j) = some v := by
  intro j v hj
  match j, hj with
  | 0, hj => simp at hj; subst hj; simp [Addr.add]

/-- The places at which two lists differ. -/
def difK (xs ys : List Bool) (k : Nat) : List Nat := (List.range k).filter fun i => xs.getD i false != ys.getD i false
def dif (xs ys : List Bool) : List Nat := difK xs ys xs.length
theorem difK_le (xs ys : List Bool) (k : Nat) : (difK xs ys k).length ≤ k := by
  unfold difK; have := List.length_filter_le (fun i => xs.getD i false != ys.getD i false) (List.range k); simpa using this
theorem difK_eq {xs ys : List Bool} {k : Nat} {a : Bool} (ha : xs[k]? = some a) (hb : ys[k]? = some a) : difK xs ys (k + 1) = difK xs ys k := by
  unfold difK; rw [List.range_succ, List.filter_append]; simp [ha, hb]
theorem difK_ne {xs ys : List Bool} {k : Nat} {a b : Bool} (ha : xs[k]? = some a) (hb : ys[k]? = some b) (h : a ≠ b) : difK xs ys (k + 1) = difK xs ys k ++ [k] := by
  unfold difK; rw [List.range_succ, List.filter_append]; simp [ha, hb, h]

theorem grown_nx {w0 w w' : World} {v : Value} (h : Nx w0 w) (hg : w.grownBy w' v.ownBlock) {base : Nat} {e : TypeId} {size n : Nat} {xs : List Value} (hown : w.ownsRow base e size v n xs) (hb : w0.heap.size ≤ base) : Nx w0 w' :=
  Below.grown h hg h.size fun k hk => Nat.le_trans hb (hown.lt k hk).1

def DiffPost (xs ys : List Bool) (w : World) (e : Ending) (w' : World) : Prop :=
  ∃ A c, e = .returned (.tuple #[.slice A (dif xs ys).length c, .int .i64 0]) ∧ RdI w' A (dif xs ys) ∧ Nx w w'
theorem diffPost_of {xs ys : List Bool} {w w' : World} {v : Value} {n k : Nat} (hk : k = xs.length) (hown : w'.ownsRow w.heap.size 3 1 v n (ints (difK xs ys k))) (hnx : Nx w w') :
    DiffPost xs ys w (.returned (.tuple #[v, .int .i64 0])) w' := by
  subst hk
  obtain ⟨A, c, rfl, hr⟩ := own_ints hown
  exact ⟨A, c, rfl, hr, hnx⟩

/-- What Diff answers: where the lengths differ, code 2; else the places. -/
def DiffAny (xs ys : List Bool) (w : World) (e : Ending) (w' : World) : Prop :=
  (xs.length ≠ ys.length ∧ e = .returned (.tuple #[.slice none 0 0, .int .i64 2]) ∧ Nx w w') ∨ (xs.length = ys.length ∧ DiffPost xs ys w e w')
end Go.Proofs.YtdiamajkfbejhaaDoor
