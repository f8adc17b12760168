/- Words for bytes in memory; what the small functions of the encoding return. Condition: the table of opcodes holds what the program's text lays, where a form is asked for. -/
import Derived.Test.YtdiamajkfbejhaaDoorIT1
import Derived.Test.YtdiamajkfbejhaaDoorID
import Derived.Test.YtdiamajkfbejhaaDoorIY1
import Derived.OwnWalk
namespace Go.Proofs.YtdiamajkfbejhaaDoor
open Go.RowKit

/-- The cells of a slice read as the bytes bs. -/
def RdY (w : World) (A : Option Addr) (bs : List UInt8) : Prop := ∀ (k : Nat) (b : UInt8), bs[k]? = some b → ∃ ad, A = some ad ∧ w.cell? (ad.add k) = some (.int .u8 (b.toNat : Int))
theorem RdY.nx {w w' : World} {A : Option Addr} {bs : List UInt8} (h : RdY w A bs) (k : Nx w w') : RdY w' A bs := fun i b hi => by
  obtain ⟨ad, e, hc⟩ := h i b hi
  exact ⟨ad, e, k.cell hc⟩
theorem RdY.nil (w : World) (A : Option Addr) : RdY w A [] := fun k b hk => by simp at hk
def byt (bs : List UInt8) : List Value := bs.map fun b => Value.int .u8 (b.toNat : Int)
theorem byt_len (bs : List UInt8) : (byt bs).length = bs.length := by simp [byt]
theorem byt_app (a b : List UInt8) : byt (a ++ b) = byt a ++ byt b := by simp [byt]
theorem byt_one (bs : List UInt8) : ∀ u ∈ byt bs, u.oneCell' = true := by
  intro u hu; obtain ⟨b, _, rfl⟩ := List.mem_map.1 hu; rfl
theorem byt_at {bs : List UInt8} {k : Nat} {b : UInt8} (h : bs[k]? = some b) : (byt bs)[k]? = some (.int .u8 (b.toNat : Int)) := by simp [byt, h]
theorem RdY.src {w : World} {ad : Addr} {bs : List UInt8} (h : RdY w (some ad) bs) : ∀ j u, (byt bs)[j]? = some u → w.cell? (ad.add j) = some u := fun j u hj => by
  unfold byt at hj
  rw [List.getElem?_map] at hj
  cases hb : bs[j]? with
  | none => rw [hb] at hj; cases hj
  | some b =>
    rw [hb] at hj
    obtain ⟨ad', e, hc⟩ := h j b hb
    obtain rfl := Option.some.inj e
    rw [hc, ← hj]; rfl
/-- A row of bytes of the call's own. -/
def OwY (w : World) (B : Nat) (v : Value) (bs : List UInt8) : Prop := w.ownsRow B 5 1 v bs.length (byt bs)
theorem OwY.rd {w : World} {B : Nat} {v : Value} {bs : List UInt8} (h : OwY w B v bs) : ∃ A c, v = .slice A bs.length c ∧ RdY w A bs ∧ (A = none → c = 0) ∧ (∀ ad, A = some ad → B ≤ ad.block) ∧ bs.length ≤ c := by
  unfold OwY at h
  rcases h.2 with ⟨rfl, h0⟩ | ⟨g, cap, cur, rfl, hg, _, hcap, _⟩
  · obtain rfl := List.eq_nil_of_length_eq_zero h0
    exact ⟨none, 0, rfl, RdY.nil _ _, fun _ => rfl, (fun ad e => by cases e), Nat.le_refl _⟩
  · refine ⟨_, _, rfl, fun k b hk => ?_, (fun e => by cases e), (fun ad e => by obtain rfl := Option.some.inj e; exact hg), hcap⟩
    exact ⟨_, rfl, World.ownsRow.cells h (g := g) rfl k _ (byt_at hk)⟩
theorem OwY.nx {w w' : World} {B : Nat} {v : Value} {bs : List UInt8} (h : OwY w B v bs) (k : Nx w w') : OwY w' B v bs := own_of h fun g _ hg => k.block g hg
theorem OwY.low {w : World} {B B' : Nat} {v : Value} {bs : List UInt8} (h : OwY w B v bs) (hb : B' ≤ B) : OwY w B' v bs := by
  obtain ⟨h1, h2⟩ := h
  refine ⟨h1, ?_⟩
  rcases h2 with hn | ⟨g', cap, cur, e, hg, rest⟩
  · exact .inl hn
  · exact .inr ⟨g', cap, cur, e, Nat.le_trans hb hg, rest⟩
theorem OwY.snoc {w : World} {B : Nat} {v : Value} {bs cs : List UInt8} {n : Nat} (h : w.ownsRow B 5 1 v (bs.length + n) (byt bs ++ byt cs)) (hn : cs.length = n) : OwY w B v (bs ++ cs) := by
  unfold OwY
  rw [byt_app, List.length_append, hn]
  exact h
theorem grown_b {w0 w w' : World} {v : Value} {B : Nat} (h : Below B w0 w) (hg : w.grownBy w' v.ownBlock) {e : TypeId} {size n : Nat} {xs : List Value} (hown : w.ownsRow B e size v n xs) (hb : B ≤ w.heap.size) : Below B w0 w' :=
  Below.grown h hg hb fun k hk => (hown.lt k hk).1
theorem Below.nx' {B : Nat} {w0 w w' : World} (h : Below B w0 w) (k : Nx w w') (hb : B ≤ w.heap.size) : Below B w0 w' := Below.trans h (Below.mono k hb)
theorem conv_y (A : Option Addr) (bs : List UInt8) (c : Nat) (w : World) (h : RdY w A bs) (h0 : A = none → bs = [] ∧ c = 0) :
    (convert 28 9 (.slice A bs.length c)).run Tryd.prog w = .ok (.string ⟨bs.toArray⟩) w := by
  cases A with
  | none =>
    obtain ⟨rfl, rfl⟩ := h0 rfl
    rw [run_convert_bytes_string w 28 9 5 none _ _ Tryd.underlying28 Tryd.underlying5 Tryd.underlying9]
    rfl
  | some ad =>
    exact run_convert_bytes_back (P := Tryd.prog) w 28 9 5 ad c bs Tryd.underlying28 Tryd.underlying5 Tryd.underlying9 (fun j hj => by
      obtain ⟨ad', e, hc⟩ := h j _ (List.getElem?_eq_getElem hj)
      obtain rfl := Option.some.inj e
      exact hc)
theorem new_two (w : World) (u v : Value) (t : TypeId) : ∀ j x, [u, v][j]? = some x → (w.alloc (.cells #[u, v] t)).cell? ((⟨w.heap.size, 0, none⟩ : Addr).add j) = some x := by
  intro j x hj
  rw [Addr.add_lit, Nat.zero_add]
  match j, hj with
  | 0, hj => simp at hj; subst hj; simp
  | 1, hj => simp at hj; subst hj; simp

set_option maxHeartbeats 800000 in
theorem hasAddr_any (f : Int) (w : World) : Calls Tryd.prog 36 #[.int .i64 f] w fun e w' => e = .returned (.bool (hA f)) ∧ w = w' := by
  by_cases h1 : f = 1
  · subst h1
    go_enter Tryd.func36, Tryd.ntmps36
    go_wp2
    go_ret
    exact ⟨rfl, rfl⟩
  by_cases h2 : f = 2
  · subst h2
    go_enter Tryd.func36, Tryd.ntmps36
    go_wp2
    go_ret
    exact ⟨rfl, rfl⟩
  by_cases h3 : f = 3
  · subst h3
    go_enter Tryd.func36, Tryd.ntmps36
    go_wp2
    go_ret
    exact ⟨rfl, rfl⟩
  · have HR := Lib.hid (show hA f = false from decide_eq_false (by omega))
    have t1 : (f == 1) = false := by simpa using h1
    have t2 : (f == 2) = false := by simpa using h2
    have t3 : (f == 3) = false := by simpa using h3
    go_enter Tryd.func36, Tryd.ntmps36
    go_wp2
    go_ret
    exact ⟨ret_bool HR.out.symm, rfl⟩
set_option maxHeartbeats 800000 in
theorem hasNumber_any (f : Int) (w : World) : Calls Tryd.prog 37 #[.int .i64 f] w fun e w' => e = .returned (.bool (hN f)) ∧ w = w' := by
  by_cases h2 : f = 2
  · subst h2
    go_enter Tryd.func37, Tryd.ntmps37
    go_wp2
    go_ret
    exact ⟨rfl, rfl⟩
  by_cases h3 : f = 4
  · subst h3
    go_enter Tryd.func37, Tryd.ntmps37
    go_wp2
    go_ret
    exact ⟨rfl, rfl⟩
  · have HR := Lib.hid (show hN f = false from decide_eq_false (by omega))
    have t2 : (f == 2) = false := by simpa using h2
    have t3 : (f == 4) = false := by simpa using h3
    go_enter Tryd.func37, Tryd.ntmps37
    go_wp2
    go_ret
    exact ⟨ret_bool HR.out.symm, rfl⟩
theorem need_no {f : Int} (h1 : f ≠ 1) (h2 : f ≠ 2) (h3 : f ≠ 3) (h4 : f ≠ 4) : need f = 0 := by
  have e1 : hA f = false := decide_eq_false (by omega)
  have e2 : hN f = false := decide_eq_false (by omega)
  unfold need; rw [e1, e2]; rfl
set_option maxHeartbeats 800000 in
theorem operandSize_any (f : Int) (w : World) : Calls Tryd.prog 34 #[.int .i64 f] w fun e w' => e = .returned (.int .i64 (need f : Nat)) ∧ w = w' := by
  by_cases h1 : f = 1
  · subst h1
    go_enter Tryd.func34, Tryd.ntmps34
    go_wp2
    go_ret
    exact ⟨rfl, rfl⟩
  by_cases h2 : f = 2
  · subst h2
    go_enter Tryd.func34, Tryd.ntmps34
    go_wp2
    go_ret
    exact ⟨rfl, rfl⟩
  by_cases h3 : f = 3
  · subst h3
    go_enter Tryd.func34, Tryd.ntmps34
    go_wp2
    go_ret
    exact ⟨rfl, rfl⟩
  by_cases h4 : f = 4
  · subst h4
    go_enter Tryd.func34, Tryd.ntmps34
    go_wp2
    go_ret
    exact ⟨rfl, rfl⟩
  · have HR := Lib.hid (show ((need f : Nat) : Int) = 0 by rw [need_no h1 h2 h3 h4]; rfl)
    have t1 : (f == 1) = false := by simpa using h1
    have t2 : (f == 2) = false := by simpa using h2
    have t3 : (f == 3) = false := by simpa using h3
    have t4 : (f == 4) = false := by simpa using h4
    go_enter Tryd.func34, Tryd.ntmps34
    go_wp2
    go_ret
    exact ⟨ret_int HR.out.symm, rfl⟩
set_option maxHeartbeats 800000 in
theorem need_any (o : Int) (w : World) : Calls Tryd.prog 28 #[.int .i64 o] w fun e w' => e = .returned (.int .i64 (need (frm o) : Nat)) ∧ w = w' := by
  have FM := Lib.hid (refForm_any o)
  have hf := frm_in o
  generalize frm o = f at *
  by_cases h0 : f = -1 ∨ f = 0
  · rcases h0 with rfl | rfl
    all_goals
      go_enter Tryd.func28, Tryd.ntmps28
      go_wp2_with fail
      refine (FM.out _).mono ?_
      rintro e w2 ⟨rfl, rfl⟩
      go_wp2_with fail
      go_ret
      exact ⟨rfl, rfl⟩
  · have h5 : f = 1 ∨ f = 2 ∨ f = 3 ∨ f = 4 := by omega
    rcases h5 with rfl | rfl | rfl | rfl
    all_goals
      go_enter Tryd.func28, Tryd.ntmps28
      go_wp2_with fail
      refine (FM.out _).mono ?_
      rintro e w2 ⟨rfl, rfl⟩
      go_wp2_with fail
      go_ret
      exact ⟨rfl, rfl⟩
end Go.Proofs.YtdiamajkfbejhaaDoor
