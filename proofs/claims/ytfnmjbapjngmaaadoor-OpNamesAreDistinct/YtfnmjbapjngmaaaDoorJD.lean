/- What Parse returns. Conditions: a text of at most the model's greatest length; the tables are laid. -/
import Derived.Test.YtfnmjbapjngmaaaDoorJC
import Derived.Test.YtfnmjbapjngmaaaDoorJShelf
import Derived.Lib.IndexBytes
namespace Go.Proofs.YtfnmjbapjngmaaaDoor
open Go.RowKit

/-- What the walks lean on in a world: the table of letters, and the library's table of powers. -/
structure Env (w : World) : Prop where
  c0 : w.cell? ⟨1, 0, none⟩ = some (.string sI)
  c1 : w.cell? ⟨1, 1, none⟩ = some (.string sQ)
  c2 : w.cell? ⟨1, 2, none⟩ = some (.string sM)
  pow : Lib.TabIs Tryd.prog w "internal/strconv.uint64pow10" .u64 Lib.pow10Tab
theorem Env.tab {w : World} (h : Env w) : Tab w := ⟨h.c0, h.c1, h.c2⟩
theorem Nx.var {w w' : World} (h : Nx w w') {P : Program} {n : String} {cs : Array Value} (hv : w.var? P n = some cs) : w'.var? P n = some cs := by
  unfold World.var? at hv ⊢
  cases hg : P.globalNamed n with
  | none => rw [hg] at hv; cases hv
  | some g =>
    rw [hg] at hv
    simp only [Option.bind_some] at hv ⊢
    cases hh : w.heap[g]? with
    | none => rw [hh] at hv; cases hv
    | some o =>
      have hlt : g < w.heap.size := by
        rcases Array.getElem?_eq_some_iff.1 hh with ⟨h, _⟩; exact h
      rw [Below.block h g hlt]; exact hv
theorem Env.nx {w w' : World} (h : Env w) (k : Nx w w') : Env w' where
  c0 := k.cell h.c0
  c1 := k.cell h.c1
  c2 := k.cell h.c2
  pow := k.var h.pow

/-- What Parse answers: space, number, code. -/
def parL (l : List UInt8) : Int × Int × Int := match l with
  | [] => (0, 0, 6)
  | c :: r => if (spO c).2 then (if (pnum r).2 = 0 then ((spO c).1, (pnum r).1, 0) else (0, 0, (pnum r).2)) else (0, 0, 6)

theorem parL_nil (s : ByteArray) (h : s.size = 0) : parL (B s) = (0, 0, 6) := by
  have : (B s) = [] := List.eq_nil_of_length_eq_zero (by rw [size_B]; exact h)
  rw [this]; rfl
theorem B_tail (s : ByteArray) : B (s.extract 1 s.size) = (B s).drop 1 := Lib.extract_to_end s 1
theorem B_cons (s : ByteArray) (h : 0 < s.size) : B s = s[0] :: B (s.extract 1 s.size) := by
  rw [B_tail, ← getB s 0 h, ← List.drop_eq_getElem_cons]; rfl
theorem B_head (s : ByteArray) (h : 0 < s.size) : B (s.extract 0 1) = [s[0]] := by
  show (s.extract 0 1).data.toList = _
  rw [Lib.extract_data]
  have := B_cons s h
  unfold B at this
  rw [this]; rfl
theorem size_tail (s : ByteArray) : (s.extract 1 s.size).size ≤ s.size := by simp

theorem ret_par {a b c : Int} {p : Int × Int × Int} (h : p = (a, b, c)) : Ending.returned (.tuple #[.agg #[.int .i64 a, .int .i64 b], .int .i64 c]) = .returned (.tuple #[.agg #[.int .i64 p.1, .int .i64 p.2.1], .int .i64 p.2.2]) := by rw [h]

set_option maxHeartbeats 400000 in
theorem aParse_any (s : ByteArray) (hs : s.size ≤ maxLen) (w : World) (ht : Env w) :
    Calls Tryd.prog 48 #[.string s] w fun e w' => e = .returned (.tuple #[.agg #[.int .i64 (parL (B s)).1, .int .i64 (parL (B s)).2.1], .int .i64 (parL (B s)).2.2]) ∧ Nx w w' := by
  by_cases h0 : s.size = 0
  · have he := isEmpty_yes s h0
    have HR := Lib.hid (parL_nil s h0)
    go_enter Tryd.func48, Tryd.ntmps48
    go_wp2
    go_returns
    exact ⟨ret_par HR.out, Nx.one _ _⟩
  · have he := isEmpty_no s h0
    have hp : 0 < s.size := by omega
    have HC := Lib.hid (B_cons s hp)
    have c1 := fun w h => spaceOf_any (s.extract 0 1) s[0] (B_head s hp) w h
    have c2 := parseNumber_any (s.extract 1 s.size) (Nat.le_trans (size_tail s) hs)
    have e1 : Env (w.alloc (Obj.cells #[Value.int IntKind.i64 0, Value.int IntKind.i64 0] 33)) := ht.nx (Nx.one _ _)
    have C1 := Lib.hid c1
    have C2 := Lib.hid c2
    have E1 := Lib.hid e1
    clear c1 c2 e1
    generalize hsp : spO s[0] = sp at *
    obtain ⟨a, ok⟩ := sp
    generalize hpn : pnum (B (s.extract 1 s.size)) = pn at *
    obtain ⟨n, er⟩ := pn
    cases ok
    · have HR := Lib.hid (show parL (B s) = (0, 0, 6) by rw [HC.out]; simp [parL, hsp])
      clear hsp hpn
      go_enter Tryd.func48, Tryd.ntmps48
      go_wp2_with (go_at_call 60; refine (C1.out _ E1.out.tab).mono ?_; rintro e w' ⟨rfl, rfl⟩)
      go_returns
      exact ⟨ret_par HR.out, Nx.one _ _⟩
    · by_cases her : er = 0
      · have HR := Lib.hid (show parL (B s) = (a, n, 0) by rw [HC.out]; simp [parL, hsp, hpn, her])
        subst her
        clear hsp hpn
        go_enter Tryd.func48, Tryd.ntmps48
        go_wp2_with (first | (go_at_call 60; refine (C1.out _ E1.out.tab).mono ?_; rintro e w' ⟨rfl, rfl⟩) | (go_at_call 61; refine (C2.out _).mono ?_; rintro e w' ⟨rfl, rfl⟩))
        go_returns
        exact ⟨ret_par HR.out, Nx.one _ _⟩
      · have HR := Lib.hid (show parL (B s) = (0, 0, er) by rw [HC.out]; simp [parL, hsp, hpn, her])
        have hne : (er == 0) = false := by simpa using her
        clear hsp hpn her
        go_enter Tryd.func48, Tryd.ntmps48
        go_wp2_with (first | (go_at_call 60; refine (C1.out _ E1.out.tab).mono ?_; rintro e w' ⟨rfl, rfl⟩) | (go_at_call 61; refine (C2.out _).mono ?_; rintro e w' ⟨rfl, rfl⟩))
        go_returns
        exact ⟨ret_par HR.out, Nx.one _ _⟩
end Go.Proofs.YtfnmjbapjngmaaaDoor
