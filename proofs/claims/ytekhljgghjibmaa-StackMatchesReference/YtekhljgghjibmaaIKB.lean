/- What New, Depth, MaxDepth and Clear of a stack return. Conditions: as each theorem states them. -/
import Derived.Test.YtekhljgghjibmaaIKA
namespace Go.Proofs.Ytekhljgghjibmaa
open Go.RowKit

theorem infost : (Try.prog.info? 9).map (fun i => (i.zero, i.size, i.bytes)) = some (some (.string ⟨#[]⟩), 1, 16) := by kernel_rfl
set_option maxHeartbeats 400000 in
theorem new_ok_st (cap : Nat) (h1 : 1 ≤ cap) (h2 : cap ≤ 4096) (w : World) : Calls Try.prog 8 #[.int .i64 (cap : Int)] w (NewPost 78 9 cap w) := by
  have H := Lib.hid (stk_new w 78 9 cap)
  have t1 : ¬ (cap : Int) < 1 := by omega
  have t2 : ¬ (4096 : Int) < (cap : Int) := by omega
  have t3 : decide ((cap : Int) < 1) = false := decide_eq_false t1
  have t4 : decide ((4096 : Int) < (cap : Int)) = false := decide_eq_false t2
  go_enter Try.func8, Try.ntmps8
  go_wp2
  go_ret2
  exact ⟨rfl, H.out, Nx.one _ _, by simp⟩
set_option maxHeartbeats 400000 in
theorem new_no_st (n : Int) (h : n < 1 ∨ 4096 < n) (w : World) : Calls Try.prog 8 #[.int .i64 n] w fun e w' => e = .returned (.tuple #[.pointer none, .int .i64 3]) ∧ w = w' := by
  by_cases h1 : n < 1
  · clear h
    go_enter Try.func8, Try.ntmps8
    go_wp2
    go_ret2
    exact ⟨rfl, rfl⟩
  · have h2 : 4096 < n := by omega
    clear h
    go_enter Try.func8, Try.ntmps8
    go_wp2
    go_ret2
    exact ⟨rfl, rfl⟩
set_option maxHeartbeats 400000 in
theorem depth_st (base b : Nat) (o : Option Nat) (cap md : Nat) (xs : List Value) (w : World) (h : Stk w 78 9 base b o cap md xs) :
    Calls Try.prog 17 #[.pointer (some ⟨b, 0, none⟩)] w fun e w' => e = .returned (.int .i64 (xs.length : Int)) ∧ w = w' := by
  obtain ⟨_, _, v, _, hb, ho⟩ := h
  obtain ⟨A, c, rfl, _⟩ := own_form ho
  have c0 := hb.cell 0 rfl
  clear hb ho
  go_enter Try.func17, Try.ntmps17
  go_wp2
  go_ret
  exact ⟨rfl, rfl⟩
set_option maxHeartbeats 400000 in
theorem maxDepth_st (base b : Nat) (o : Option Nat) (cap md : Nat) (xs : List Value) (w : World) (h : Stk w 78 9 base b o cap md xs) :
    Calls Try.prog 18 #[.pointer (some ⟨b, 0, none⟩)] w fun e w' => e = .returned (.int .i64 (md : Int)) ∧ w = w' := by
  obtain ⟨_, _, v, _, hb, ho⟩ := h
  have c2 := hb.cell 2 rfl
  clear hb ho
  go_enter Try.func18, Try.ntmps18
  go_wp2
  go_ret
  exact ⟨rfl, rfl⟩
set_option maxHeartbeats 400000 in
theorem clear_st (base b : Nat) (o : Option Nat) (cap md : Nat) (xs : List Value) (w : World) (h : Stk w 78 9 base b o cap md xs) :
    Calls Try.prog 15 #[.pointer (some ⟨b, 0, none⟩)] w fun e w' => e = .returned (.tuple #[]) ∧ Stk w' 78 9 base b none cap md [] ∧ Mv b o w w' := by
  obtain ⟨h1, _, v, _, hb, ho⟩ := h
  have H := Lib.hid (show Stk (w.setCell ⟨b, 0, none⟩ (.slice none 0 0)) 78 9 base b none cap md [] from ⟨h1, (by simp), .slice none 0 0, rfl, hb.put 0 _, World.ownsRow_nil _ _ _ _⟩)
  have c0 := hb.cell 0 rfl
  have f0 := hb.frozen 0
  clear hb ho
  go_enter Try.func15, Try.ntmps15
  go_wp2
  go_returns
  exact ⟨rfl, H.out, (Mv.refl b o w).set 0 _⟩

theorem infosl : (Try.prog.info? 47).map (fun i => (i.zero, i.size, i.bytes)) = some (some (.slice none 0 0), 1, 24) := by kernel_rfl
set_option maxHeartbeats 400000 in
theorem new_ok_sl (cap : Nat) (h1 : 1 ≤ cap) (h2 : cap ≤ 4096) (w : World) : Calls Try.prog 19 #[.int .i64 (cap : Int)] w (NewPost 82 47 cap w) := by
  have H := Lib.hid (stk_new w 82 47 cap)
  have t1 : ¬ (cap : Int) < 1 := by omega
  have t2 : ¬ (4096 : Int) < (cap : Int) := by omega
  have t3 : decide ((cap : Int) < 1) = false := decide_eq_false t1
  have t4 : decide ((4096 : Int) < (cap : Int)) = false := decide_eq_false t2
  go_enter Try.func19, Try.ntmps19
  go_wp2
  go_ret2
  exact ⟨rfl, H.out, Nx.one _ _, by simp⟩
set_option maxHeartbeats 400000 in
theorem new_no_sl (n : Int) (h : n < 1 ∨ 4096 < n) (w : World) : Calls Try.prog 19 #[.int .i64 n] w fun e w' => e = .returned (.tuple #[.pointer none, .int .i64 3]) ∧ w = w' := by
  by_cases h1 : n < 1
  · clear h
    go_enter Try.func19, Try.ntmps19
    go_wp2
    go_ret2
    exact ⟨rfl, rfl⟩
  · have h2 : 4096 < n := by omega
    clear h
    go_enter Try.func19, Try.ntmps19
    go_wp2
    go_ret2
    exact ⟨rfl, rfl⟩
set_option maxHeartbeats 400000 in
theorem depth_sl (base b : Nat) (o : Option Nat) (cap md : Nat) (xs : List Value) (w : World) (h : Stk w 82 47 base b o cap md xs) :
    Calls Try.prog 20 #[.pointer (some ⟨b, 0, none⟩)] w fun e w' => e = .returned (.int .i64 (xs.length : Int)) ∧ w = w' := by
  obtain ⟨_, _, v, _, hb, ho⟩ := h
  obtain ⟨A, c, rfl, _⟩ := own_form ho
  have c0 := hb.cell 0 rfl
  clear hb ho
  go_enter Try.func20, Try.ntmps20
  go_wp2
  go_ret
  exact ⟨rfl, rfl⟩
theorem infou : (Try.prog.info? 54).map (fun i => (i.zero, i.size, i.bytes)) = some (some (.int .u16 0), 1, 2) := by kernel_rfl
set_option maxHeartbeats 400000 in
theorem new_ok_u (cap : Nat) (h1 : 1 ≤ cap) (h2 : cap ≤ 4096) (w : World) : Calls Try.prog 22 #[.int .i64 (cap : Int)] w (NewPost 84 54 cap w) := by
  have H := Lib.hid (stk_new w 84 54 cap)
  have t1 : ¬ (cap : Int) < 1 := by omega
  have t2 : ¬ (4096 : Int) < (cap : Int) := by omega
  have t3 : decide ((cap : Int) < 1) = false := decide_eq_false t1
  have t4 : decide ((4096 : Int) < (cap : Int)) = false := decide_eq_false t2
  go_enter Try.func22, Try.ntmps22
  go_wp2
  go_ret2
  exact ⟨rfl, H.out, Nx.one _ _, by simp⟩
set_option maxHeartbeats 400000 in
theorem new_no_u (n : Int) (h : n < 1 ∨ 4096 < n) (w : World) : Calls Try.prog 22 #[.int .i64 n] w fun e w' => e = .returned (.tuple #[.pointer none, .int .i64 3]) ∧ w = w' := by
  by_cases h1 : n < 1
  · clear h
    go_enter Try.func22, Try.ntmps22
    go_wp2
    go_ret2
    exact ⟨rfl, rfl⟩
  · have h2 : 4096 < n := by omega
    clear h
    go_enter Try.func22, Try.ntmps22
    go_wp2
    go_ret2
    exact ⟨rfl, rfl⟩
set_option maxHeartbeats 400000 in
theorem depth_u (base b : Nat) (o : Option Nat) (cap md : Nat) (xs : List Value) (w : World) (h : Stk w 84 54 base b o cap md xs) :
    Calls Try.prog 24 #[.pointer (some ⟨b, 0, none⟩)] w fun e w' => e = .returned (.int .i64 (xs.length : Int)) ∧ w = w' := by
  obtain ⟨_, _, v, _, hb, ho⟩ := h
  obtain ⟨A, c, rfl, _⟩ := own_form ho
  have c0 := hb.cell 0 rfl
  clear hb ho
  go_enter Try.func24, Try.ntmps24
  go_wp2
  go_ret
  exact ⟨rfl, rfl⟩
set_option maxHeartbeats 400000 in
theorem maxDepth_u (base b : Nat) (o : Option Nat) (cap md : Nat) (xs : List Value) (w : World) (h : Stk w 84 54 base b o cap md xs) :
    Calls Try.prog 27 #[.pointer (some ⟨b, 0, none⟩)] w fun e w' => e = .returned (.int .i64 (md : Int)) ∧ w = w' := by
  obtain ⟨_, _, v, _, hb, ho⟩ := h
  have c2 := hb.cell 2 rfl
  clear hb ho
  go_enter Try.func27, Try.ntmps27
  go_wp2
  go_ret
  exact ⟨rfl, rfl⟩
theorem infoi : (Try.prog.info? 3).map (fun i => (i.zero, i.size, i.bytes)) = some (some (.int .i64 0), 1, 8) := by kernel_rfl
set_option maxHeartbeats 400000 in
theorem new_ok_i (cap : Nat) (h1 : 1 ≤ cap) (h2 : cap ≤ 4096) (w : World) : Calls Try.prog 28 #[.int .i64 (cap : Int)] w (NewPost 86 3 cap w) := by
  have H := Lib.hid (stk_new w 86 3 cap)
  have t1 : ¬ (cap : Int) < 1 := by omega
  have t2 : ¬ (4096 : Int) < (cap : Int) := by omega
  have t3 : decide ((cap : Int) < 1) = false := decide_eq_false t1
  have t4 : decide ((4096 : Int) < (cap : Int)) = false := decide_eq_false t2
  go_enter Try.func28, Try.ntmps28
  go_wp2
  go_ret2
  exact ⟨rfl, H.out, Nx.one _ _, by simp⟩
set_option maxHeartbeats 400000 in
theorem new_no_i (n : Int) (h : n < 1 ∨ 4096 < n) (w : World) : Calls Try.prog 28 #[.int .i64 n] w fun e w' => e = .returned (.tuple #[.pointer none, .int .i64 3]) ∧ w = w' := by
  by_cases h1 : n < 1
  · clear h
    go_enter Try.func28, Try.ntmps28
    go_wp2
    go_ret2
    exact ⟨rfl, rfl⟩
  · have h2 : 4096 < n := by omega
    clear h
    go_enter Try.func28, Try.ntmps28
    go_wp2
    go_ret2
    exact ⟨rfl, rfl⟩
set_option maxHeartbeats 400000 in
theorem depth_i (base b : Nat) (o : Option Nat) (cap md : Nat) (xs : List Value) (w : World) (h : Stk w 86 3 base b o cap md xs) :
    Calls Try.prog 30 #[.pointer (some ⟨b, 0, none⟩)] w fun e w' => e = .returned (.int .i64 (xs.length : Int)) ∧ w = w' := by
  obtain ⟨_, _, v, _, hb, ho⟩ := h
  obtain ⟨A, c, rfl, _⟩ := own_form ho
  have c0 := hb.cell 0 rfl
  clear hb ho
  go_enter Try.func30, Try.ntmps30
  go_wp2
  go_ret
  exact ⟨rfl, rfl⟩
set_option maxHeartbeats 400000 in
theorem maxDepth_i (base b : Nat) (o : Option Nat) (cap md : Nat) (xs : List Value) (w : World) (h : Stk w 86 3 base b o cap md xs) :
    Calls Try.prog 32 #[.pointer (some ⟨b, 0, none⟩)] w fun e w' => e = .returned (.int .i64 (md : Int)) ∧ w = w' := by
  obtain ⟨_, _, v, _, hb, ho⟩ := h
  have c2 := hb.cell 2 rfl
  clear hb ho
  go_enter Try.func32, Try.ntmps32
  go_wp2
  go_ret
  exact ⟨rfl, rfl⟩
theorem infoh : (Try.prog.info? 71).map (fun i => (i.zero, i.size, i.bytes)) = some (some (.int .i16 0), 1, 2) := by kernel_rfl
set_option maxHeartbeats 400000 in
theorem new_ok_h (cap : Nat) (h1 : 1 ≤ cap) (h2 : cap ≤ 4096) (w : World) : Calls Try.prog 33 #[.int .i64 (cap : Int)] w (NewPost 88 71 cap w) := by
  have H := Lib.hid (stk_new w 88 71 cap)
  have t1 : ¬ (cap : Int) < 1 := by omega
  have t2 : ¬ (4096 : Int) < (cap : Int) := by omega
  have t3 : decide ((cap : Int) < 1) = false := decide_eq_false t1
  have t4 : decide ((4096 : Int) < (cap : Int)) = false := decide_eq_false t2
  go_enter Try.func33, Try.ntmps33
  go_wp2
  go_ret2
  exact ⟨rfl, H.out, Nx.one _ _, by simp⟩
set_option maxHeartbeats 400000 in
theorem new_no_h (n : Int) (h : n < 1 ∨ 4096 < n) (w : World) : Calls Try.prog 33 #[.int .i64 n] w fun e w' => e = .returned (.tuple #[.pointer none, .int .i64 3]) ∧ w = w' := by
  by_cases h1 : n < 1
  · clear h
    go_enter Try.func33, Try.ntmps33
    go_wp2
    go_ret2
    exact ⟨rfl, rfl⟩
  · have h2 : 4096 < n := by omega
    clear h
    go_enter Try.func33, Try.ntmps33
    go_wp2
    go_ret2
    exact ⟨rfl, rfl⟩
set_option maxHeartbeats 400000 in
theorem depth_h (base b : Nat) (o : Option Nat) (cap md : Nat) (xs : List Value) (w : World) (h : Stk w 88 71 base b o cap md xs) :
    Calls Try.prog 37 #[.pointer (some ⟨b, 0, none⟩)] w fun e w' => e = .returned (.int .i64 (xs.length : Int)) ∧ w = w' := by
  obtain ⟨_, _, v, _, hb, ho⟩ := h
  obtain ⟨A, c, rfl, _⟩ := own_form ho
  have c0 := hb.cell 0 rfl
  clear hb ho
  go_enter Try.func37, Try.ntmps37
  go_wp2
  go_ret
  exact ⟨rfl, rfl⟩
set_option maxHeartbeats 400000 in
theorem maxDepth_h (base b : Nat) (o : Option Nat) (cap md : Nat) (xs : List Value) (w : World) (h : Stk w 88 71 base b o cap md xs) :
    Calls Try.prog 39 #[.pointer (some ⟨b, 0, none⟩)] w fun e w' => e = .returned (.int .i64 (md : Int)) ∧ w = w' := by
  obtain ⟨_, _, v, _, hb, ho⟩ := h
  have c2 := hb.cell 2 rfl
  clear hb ho
  go_enter Try.func39, Try.ntmps39
  go_wp2
  go_ret
  exact ⟨rfl, rfl⟩
set_option maxHeartbeats 400000 in
theorem clear_h (base b : Nat) (o : Option Nat) (cap md : Nat) (xs : List Value) (w : World) (h : Stk w 88 71 base b o cap md xs) :
    Calls Try.prog 35 #[.pointer (some ⟨b, 0, none⟩)] w fun e w' => e = .returned (.tuple #[]) ∧ Stk w' 88 71 base b none cap md [] ∧ Mv b o w w' := by
  obtain ⟨h1, _, v, _, hb, ho⟩ := h
  have H := Lib.hid (show Stk (w.setCell ⟨b, 0, none⟩ (.slice none 0 0)) 88 71 base b none cap md [] from ⟨h1, (by simp), .slice none 0 0, rfl, hb.put 0 _, World.ownsRow_nil _ _ _ _⟩)
  have c0 := hb.cell 0 rfl
  have f0 := hb.frozen 0
  clear hb ho
  go_enter Try.func35, Try.ntmps35
  go_wp2
  go_returns
  exact ⟨rfl, H.out, (Mv.refl b o w).set 0 _⟩

theorem infob : (Try.prog.info? 4).map (fun i => (i.zero, i.size, i.bytes)) = some (some (.bool false), 1, 1) := by kernel_rfl
end Go.Proofs.Ytekhljgghjibmaa
