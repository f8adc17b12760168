/- The walk of StateWritesCommute: what two writes leave. Conditions: images that read as lists of bools. -/
import Derived.Test.YtndapcbjcannhaaW5a
namespace Go.Proofs.Ytndapcbjcannhaa
open Go.RowKit

theorem wrE_same {x1 x2 : List Bool} {k n k' n' : Int} {v : Bool} : wrE (wrQ x1 k n v) (wrM x2 k n v) k' n' = wrE x1 x2 k' n' := by
  unfold wrE; rw [wrQ_E, wrM_E]
theorem rdE_in {x : List Bool} {n : Int} (h : rdE x n = 0) : 0 ≤ n := by
  unfold rdE at h
  by_cases hn : 0 ≤ n ∧ n < (x.length : Int)
  · exact hn.1
  · rw [if_neg hn] at h; omega
theorem wrE_in {x1 x2 : List Bool} {k n : Int} (h : wrE x1 x2 k n = 0) : 0 ≤ n := by
  unfold wrE at h
  split at h
  · exact rdE_in h
  · split at h
    · exact rdE_in h
    · omega
theorem set_comm' {x : List Bool} {p q : Nat} {a b : Bool} (h : p ≠ q ∨ a = b) : (x.set p a).set q b = (x.set q b).set p a := by
  rcases h with h | h
  · exact List.set_comm _ _ h
  · subst h
    by_cases e : p = q
    · subst e; rfl
    · exact List.set_comm _ _ e
theorem wrQ_comm {x : List Bool} {k n k' n' : Int} {a b : Bool} (h0 : 0 ≤ n) (h1 : 0 ≤ n') (h : ¬ (k = k' ∧ n = n') ∨ a = b) : wrQ (wrQ x k n a) k' n' b = wrQ (wrQ x k' n' b) k n a := by
  unfold wrQ
  by_cases e : k = 1
  · by_cases e' : k' = 1
    · simp only [if_pos e, if_pos e']
      refine set_comm' ?_
      rcases h with h | h
      · exact Or.inl (by omega)
      · exact Or.inr h
    · simp only [if_pos e, if_neg e']
  · simp only [if_neg e]
theorem wrM_comm {x : List Bool} {k n k' n' : Int} {a b : Bool} (h0 : 0 ≤ n) (h1 : 0 ≤ n') (h : ¬ (k = k' ∧ n = n') ∨ a = b) : wrM (wrM x k n a) k' n' b = wrM (wrM x k' n' b) k n a := by
  unfold wrM
  by_cases e : k = 2
  · by_cases e' : k' = 2
    · simp only [if_pos e, if_pos e']
      refine set_comm' ?_
      rcases h with h | h
      · exact Or.inl (by omega)
      · exact Or.inr h
    · simp only [if_pos e, if_neg e']
  · simp only [if_neg e]
theorem im_nil (w : World) : Im w none 0 0 [] := ⟨fun k b hk => by simp at hk, rfl, fun _ => rfl⟩
/-- Write, where it writes. -/
theorem write_yes (A1 A2 A3 : Option Addr) (m1 m2 m3 c1 c2 c3 : Nat) (x1 x2 x3 : List Bool) (k n : Int) (v : Bool) (hm1 : m1 ≤ 1000000) (hm2 : m2 ≤ 1000000) (hm3 : m3 ≤ 1000000) (w : World)
    (hx1 : Im w A1 m1 c1 x1) (hx2 : Im w A2 m2 c2 x2) (hx3 : Im w A3 m3 c3 x3) (he : wrE x1 x2 k n = 0) :
    Calls Try.prog 21 #[.agg #[.slice A1 m1 c1, .slice A2 m2 c2, .slice A3 m3 c3], .agg #[.int .i64 k, .int .i64 n], .bool v] w fun e w' => ∃ B1 B2 B3 d1 d2 d3, e = .returned (.tuple #[.agg #[.slice B1 m1 d1, .slice B2 m2 d2, .slice B3 m3 d3], .int .i64 0]) ∧ (Im w' B1 m1 d1 (wrQ x1 k n v) ∧ Im w' B2 m2 d2 (wrM x2 k n v) ∧ Im w' B3 m3 d3 x3) ∧ Nx w w' := by
  refine (write_any A1 A2 A3 m1 m2 m3 c1 c2 c3 x1 x2 x3 k n v hm1 hm2 hm3 w hx1 hx2 hx3).mono ?_
  rintro e w' ⟨_, h, hn⟩
  obtain ⟨s, rfl, ⟨g1, g2, g3, e1, e2, e3, rfl, _, ⟨o1, l1⟩, ⟨o2, l2⟩, ⟨o3, l3⟩⟩⟩ := h he
  exact ⟨_, _, _, e1, e2, e3, rfl, ⟨o1.im l1, o2.im l2, o3.im l3⟩, hn⟩
theorem write_no (A1 A2 A3 : Option Addr) (m1 m2 m3 c1 c2 c3 : Nat) (x1 x2 x3 : List Bool) (k n : Int) (v : Bool) (hm1 : m1 ≤ 1000000) (hm2 : m2 ≤ 1000000) (hm3 : m3 ≤ 1000000) (w : World)
    (hx1 : Im w A1 m1 c1 x1) (hx2 : Im w A2 m2 c2 x2) (hx3 : Im w A3 m3 c3 x3) (he : wrE x1 x2 k n ≠ 0) :
    Calls Try.prog 21 #[.agg #[.slice A1 m1 c1, .slice A2 m2 c2, .slice A3 m3 c3], .agg #[.int .i64 k, .int .i64 n], .bool v] w fun e w' => e = .returned (.tuple #[.agg #[.slice none 0 0, .slice none 0 0, .slice none 0 0], .int .i64 (wrE x1 x2 k n)]) ∧ Nx w w' := by
  refine (write_any A1 A2 A3 m1 m2 m3 c1 c2 c3 x1 x2 x3 k n v hm1 hm2 hm3 w hx1 hx2 hx3).mono ?_
  rintro e w' ⟨h, _, hn⟩
  exact ⟨h he, hn⟩

set_option maxHeartbeats 6400000 in
set_option maxRecDepth 100000 in
theorem law7_big (A1 A2 A3 : Option Addr) (m1 m2 m3 c1 c2 c3 : Nat) (k n k' n' : Int) (va vb : Bool) (w : World) (hs : ¬ sm m1 m2 m3) :
    Calls Try.prog 7 #[.agg #[.slice A1 m1 c1, .slice A2 m2 c2, .slice A3 m3 c3], .agg #[.int .i64 k, .int .i64 n, .int .i64 k', .int .i64 n'], .agg #[.bool va, .bool vb]] w fun e w' => e = .returned (.bool true) ∧ Nx w w' := by
  have N0 := Lib.hid (show Nx w ((((w.alloc (.cells #[.slice A1 m1 c1, .slice A2 m2 c2, .slice A3 m3 c3] 26)).alloc (.cells #[.int .i64 k, .int .i64 n, .int .i64 k', .int .i64 n'] 48)).alloc (.cells #[.bool va, .bool vb] 55)).alloc (.cells #[.slice A1 m1 c1, .slice A2 m2 c2, .slice A3 m3 c3] 26)) from (((Nx.one _ _).alloc _).alloc _).alloc _)
  have XA := Lib.hid ((((bx_new w 26 [.slice A1 m1 c1, .slice A2 m2 c2, .slice A3 m3 c3]).nx (Nx.one _ (.cells #[.int .i64 k, .int .i64 n, .int .i64 k', .int .i64 n'] 48))).nx (Nx.one _ (.cells #[.bool va, .bool vb] 55))).nx (Nx.one _ (.cells #[.slice A1 m1 c1, .slice A2 m2 c2, .slice A3 m3 c3] 26)))
  have XT := Lib.hid (((bx_new (w.alloc (.cells #[.slice A1 m1 c1, .slice A2 m2 c2, .slice A3 m3 c3] 26)) 48 [.int .i64 k, .int .i64 n, .int .i64 k', .int .i64 n']).nx (Nx.one _ (.cells #[.bool va, .bool vb] 55))).nx (Nx.one _ (.cells #[.slice A1 m1 c1, .slice A2 m2 c2, .slice A3 m3 c3] 26)))
  rw [show (w.alloc (.cells #[.slice A1 m1 c1, .slice A2 m2 c2, .slice A3 m3 c3] 26)).heap.size = w.heap.size + 1 by simp] at XT
  have XV := Lib.hid ((bx_new ((w.alloc (.cells #[.slice A1 m1 c1, .slice A2 m2 c2, .slice A3 m3 c3] 26)).alloc (.cells #[.int .i64 k, .int .i64 n, .int .i64 k', .int .i64 n'] 48)) 55 [.bool va, .bool vb]).nx (Nx.one _ (.cells #[.slice A1 m1 c1, .slice A2 m2 c2, .slice A3 m3 c3] 26)))
  rw [show ((w.alloc (.cells #[.slice A1 m1 c1, .slice A2 m2 c2, .slice A3 m3 c3] 26)).alloc (.cells #[.int .i64 k, .int .i64 n, .int .i64 k', .int .i64 n'] 48)).heap.size = w.heap.size + 1 + 1 by simp] at XV
  have LG := Lib.hid (large1_yes (w.heap.size + 1 + 1 + 1) A1 A2 A3 m1 m2 m3 c1 c2 c3 hs ((((w.alloc (.cells #[.slice A1 m1 c1, .slice A2 m2 c2, .slice A3 m3 c3] 26)).alloc (.cells #[.int .i64 k, .int .i64 n, .int .i64 k', .int .i64 n'] 48)).alloc (.cells #[.bool va, .bool vb] 55)).alloc (.cells #[.slice A1 m1 c1, .slice A2 m2 c2, .slice A3 m3 c3] 26)) (by
    have h := bx_new ((((w.alloc (.cells #[.slice A1 m1 c1, .slice A2 m2 c2, .slice A3 m3 c3] 26)).alloc (.cells #[.int .i64 k, .int .i64 n, .int .i64 k', .int .i64 n'] 48)).alloc (.cells #[.bool va, .bool vb] 55))) 26 [.slice A1 m1 c1, .slice A2 m2 c2, .slice A3 m3 c3]
    rw [show ((((w.alloc (.cells #[.slice A1 m1 c1, .slice A2 m2 c2, .slice A3 m3 c3] 26)).alloc (.cells #[.int .i64 k, .int .i64 n, .int .i64 k', .int .i64 n'] 48)).alloc (.cells #[.bool va, .bool vb] 55))).heap.size = w.heap.size + 1 + 1 + 1 by simp] at h
    exact h))
  clear hs
  go_enter Try.func7, Try.ntmps7
  go_wp2_with fail
  refine LG.out.mono ?_
  rintro e w1 ⟨rfl, h1⟩
  have H1 := Lib.hid (N0.out.trans h1)
  clear h1
  go_wp2_with fail
  refine (alive_any _).mono ?_
  rintro e w2 ⟨rfl, h2⟩
  have H2 := Lib.hid (H1.out.trans h2)
  clear h2
  go_wp2
  go_ret
  exact ⟨rfl, H2.out⟩
end Go.Proofs.Ytndapcbjcannhaa
