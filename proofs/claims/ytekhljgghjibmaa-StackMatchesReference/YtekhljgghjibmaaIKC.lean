/- What Push of a stack does. Conditions: a stack of capacity at most 4096. -/
import Derived.Test.YtekhljgghjibmaaIKB
namespace Go.Proofs.Ytekhljgghjibmaa
open Go.RowKit

set_option maxHeartbeats 800000 in
theorem push_full_st (x : ByteArray) (base b : Nat) (o : Option Nat) (cap md : Nat) (xs : List Value) (w : World) (h : Stk w 78 9 base b o cap md xs) (hf : cap ≤ xs.length) :
    Calls Try.prog 11 #[.pointer (some ⟨b, 0, none⟩), (.string x)] w fun e w' => e = .returned (.int .i64 10) ∧ Nx w w' := by
  obtain ⟨_, _, v, _, hb, ho⟩ := h
  obtain ⟨A, c, rfl, _⟩ := own_form ho
  have c0 := hb.cell 0 rfl
  have c1 := hb.cell 1 rfl
  have t1 : (cap : Int) ≤ (xs.length : Int) := by omega
  clear hb ho hf
  generalize xs.length = n at *
  go_enter Try.func11, Try.ntmps11
  go_wp2
  go_quiet (fail)
  go_wp2
  go_ret
  exact ⟨rfl, (by repeat (first | exact Nx.refl _ | assumption | refine Nx.drewN ?_ _ | refine Nx.drew ?_ | refine Nx.alloc ?_ _ | refine Nx.set ?_ (by first | exact Nat.le_refl _ | (simp; done) | (simp; omega)) _))⟩

set_option maxHeartbeats 1600000 in
theorem push_ok_st (x : ByteArray) (base b : Nat) (o : Option Nat) (cap md : Nat) (xs : List Value) (w : World) (h : Stk w 78 9 base b o cap md xs) (hf : xs.length < cap) (hc : cap ≤ 4096) :
    Calls Try.prog 11 #[.pointer (some ⟨b, 0, none⟩), (.string x)] w (PushPost 78 9 base b o cap (max md (xs.length + 1)) (xs ++ [(.string x)]) w) := by
  obtain ⟨hbase, hob, v, hv, hb, ho⟩ := h
  have hlt := hb.lt
  obtain ⟨A, c, rfl, _⟩ := own_form ho
  obtain ⟨i0, hi, hz0, hz1, hz2⟩ := info_parts infost
  have c0 := hb.cell 0 rfl
  have c1 := hb.cell 1 rfl
  have t1 : ¬ (cap : Int) ≤ (xs.length : Int) := by omega
  have HB := Lib.hid hb
  have HO := Lib.hid ho
  have HV := Lib.hid hv
  have HOB := Lib.hid hob
  clear hb ho hv hob
  obtain ⟨n, hn⟩ : ∃ n, xs.length = n := ⟨_, rfl⟩
  have HN := Lib.hid hn
  rw [hn] at t1 hf ⊢
  have HO' := Lib.hid (show w.ownsRow base 9 1 (.slice A n c) n xs by rw [← hn]; exact HO.out)
  rw [show (Value.slice A xs.length c) = .slice A n c by rw [hn]] at c0
  have HB' := Lib.hid (show Bx w b 78 [.slice A n c, .int .i64 (cap : Int), .int .i64 (md : Int)] by rw [← hn]; exact HB.out)
  have HV' := Lib.hid (show (Value.slice A n c).ownBlock = o by rw [← HV.out]; cases A <;> rfl)
  clear hn HO HB HV
  go_enter Try.func11, Try.ntmps11
  go_wp2
  go_quiet (fail)
  have K1 := Lib.hid ((Nx.refl w).drewN nq)
  have z1 := Lib.hid (show (w.drewN nq).heap.size = w.heap.size from rfl)
  have d0 : (w.drewN nq).cell? ⟨b, 0, none⟩ = some (.slice A n c) := c0
  clear c0 c1
  generalize w.drewN nq = w1 at *
  have K2 := Lib.hid (K1.out.alloc (.cells #[(.string x)] 9))
  have hlt1 : b < w1.heap.size := by rw [z1.out]; exact hlt
  have HLT := Lib.hid hlt
  clear hlt
  have HA := Lib.hid (own_of (w' := w1.alloc (.cells #[(.string x)] 9)) HO'.out (fun g _ hl => K2.out.block g hl))
  have HX := Lib.hid (HB'.out.nx K2.out)
  have HW := Lib.hid (new_one w1 ((.string x)) 9)
  have z2 := Lib.hid (show (w1.alloc (.cells #[(.string x)] 9)).heap.size = w.heap.size + 1 by simp [z1.out])
  have HL := Lib.hid (show base ≤ (w1.alloc (.cells #[(.string x)] 9)).heap.size by rw [z2.out]; have := HLT.out; omega)
  go_wp2_with (first | (at_builtin
                        refine wpList_append_lies _ rfl (.tmp 21) (.tmp 23) 30 rfl base 9 i0 (.string ⟨#[]⟩) 1 16 Try.underlying30 hi hz0 hz1 hz2 rfl (by decide) (.slice A n c) n xs rfl HA.out ⟨w1.heap.size, 0, none⟩ 1 1 [(.string x)] rfl rfl HW.out (by simp [Value.oneCell']) (by decide) (by unfold maxLen; omega) (by omega) HL.out (w.heap.size + 1) z2.out ?_
                        intro g cc w2 ho2 hg2 hl2 hlt2
                        have HG := Lib.hid (grown_nx_l K2.out hg2)
                        have HO2 := Lib.hid ho2
                        have HX2 := Lib.hid (bx_of HX.out (hg2.block b (by rw [z2.out]; have := HLT.out; omega) (by rw [HV'.out]; exact fun e => HOB.out e.symm)))
                        have HL2 := Lib.hid hl2
                        have d0 := HX2.out.cell 0 rfl
                        have f0 := HX2.out.frozen 0
                        have e0 := (HX2.out.put 0 (.slice (some ⟨g, 0, none⟩) (n + 1) cc)).cell 0 rfl
                        have e2 := (HX2.out.put 0 (.slice (some ⟨g, 0, none⟩) (n + 1) cc)).cell 2 rfl
                        have f2 := (HX2.out.put 0 (.slice (some ⟨g, 0, none⟩) (n + 1) cc)).frozen 2
                        clear ho2 hg2 hl2 hlt2))
  go_region
  all_goals go_wp2
  · have hm : (md : Int) < (n : Int) + 1 := by assumption
    have hm' : max md (n + 1) = n + 1 := by omega
    go_ret
    exact ⟨rfl, push_done hbase HLT.out HOB.out HV'.out HX2.out HO2.out HG.out HL2.out (by rw [hm']; rfl)⟩
  · have hm : (n : Int) + 1 ≤ (md : Int) := by assumption
    have hm' : max md (n + 1) = md := by omega
    go_ret
    exact ⟨rfl, push_done hbase HLT.out HOB.out HV'.out HX2.out HO2.out HG.out HL2.out (by rw [hm'])⟩

set_option maxHeartbeats 800000 in
theorem push_full_sl (X : Option Addr) (p q : Nat) (base b : Nat) (o : Option Nat) (cap md : Nat) (xs : List Value) (w : World) (h : Stk w 82 47 base b o cap md xs) (hf : cap ≤ xs.length) :
    Calls Try.prog 21 #[.pointer (some ⟨b, 0, none⟩), (.slice X p q)] w fun e w' => e = .returned (.int .i64 10) ∧ Nx w w' := by
  obtain ⟨_, _, v, _, hb, ho⟩ := h
  obtain ⟨A, c, rfl, _⟩ := own_form ho
  have c0 := hb.cell 0 rfl
  have c1 := hb.cell 1 rfl
  have t1 : (cap : Int) ≤ (xs.length : Int) := by omega
  clear hb ho hf
  generalize xs.length = n at *
  go_enter Try.func21, Try.ntmps21
  go_wp2
  go_quiet (fail)
  go_wp2
  go_ret
  exact ⟨rfl, (by repeat (first | exact Nx.refl _ | assumption | refine Nx.drewN ?_ _ | refine Nx.drew ?_ | refine Nx.alloc ?_ _ | refine Nx.set ?_ (by first | exact Nat.le_refl _ | (simp; done) | (simp; omega)) _))⟩

set_option maxHeartbeats 1600000 in
theorem push_ok_sl (X : Option Addr) (p q : Nat) (base b : Nat) (o : Option Nat) (cap md : Nat) (xs : List Value) (w : World) (h : Stk w 82 47 base b o cap md xs) (hf : xs.length < cap) (hc : cap ≤ 4096) :
    Calls Try.prog 21 #[.pointer (some ⟨b, 0, none⟩), (.slice X p q)] w (PushPost 82 47 base b o cap (max md (xs.length + 1)) (xs ++ [(.slice X p q)]) w) := by
  obtain ⟨hbase, hob, v, hv, hb, ho⟩ := h
  have hlt := hb.lt
  obtain ⟨A, c, rfl, _⟩ := own_form ho
  obtain ⟨i0, hi, hz0, hz1, hz2⟩ := info_parts infosl
  have c0 := hb.cell 0 rfl
  have c1 := hb.cell 1 rfl
  have t1 : ¬ (cap : Int) ≤ (xs.length : Int) := by omega
  have HB := Lib.hid hb
  have HO := Lib.hid ho
  have HV := Lib.hid hv
  have HOB := Lib.hid hob
  clear hb ho hv hob
  obtain ⟨n, hn⟩ : ∃ n, xs.length = n := ⟨_, rfl⟩
  have HN := Lib.hid hn
  rw [hn] at t1 hf ⊢
  have HO' := Lib.hid (show w.ownsRow base 47 1 (.slice A n c) n xs by rw [← hn]; exact HO.out)
  rw [show (Value.slice A xs.length c) = .slice A n c by rw [hn]] at c0
  have HB' := Lib.hid (show Bx w b 82 [.slice A n c, .int .i64 (cap : Int), .int .i64 (md : Int)] by rw [← hn]; exact HB.out)
  have HV' := Lib.hid (show (Value.slice A n c).ownBlock = o by rw [← HV.out]; cases A <;> rfl)
  clear hn HO HB HV
  go_enter Try.func21, Try.ntmps21
  go_wp2
  go_quiet (fail)
  have K1 := Lib.hid ((Nx.refl w).drewN nq)
  have z1 := Lib.hid (show (w.drewN nq).heap.size = w.heap.size from rfl)
  have d0 : (w.drewN nq).cell? ⟨b, 0, none⟩ = some (.slice A n c) := c0
  clear c0 c1
  generalize w.drewN nq = w1 at *
  have K2 := Lib.hid (K1.out.alloc (.cells #[(.slice X p q)] 47))
  have hlt1 : b < w1.heap.size := by rw [z1.out]; exact hlt
  have HLT := Lib.hid hlt
  clear hlt
  have HA := Lib.hid (own_of (w' := w1.alloc (.cells #[(.slice X p q)] 47)) HO'.out (fun g _ hl => K2.out.block g hl))
  have HX := Lib.hid (HB'.out.nx K2.out)
  have HW := Lib.hid (new_one w1 ((.slice X p q)) 47)
  have z2 := Lib.hid (show (w1.alloc (.cells #[(.slice X p q)] 47)).heap.size = w.heap.size + 1 by simp [z1.out])
  have HL := Lib.hid (show base ≤ (w1.alloc (.cells #[(.slice X p q)] 47)).heap.size by rw [z2.out]; have := HLT.out; omega)
  go_wp2_with (first | (at_builtin
                        refine wpList_append_lies _ rfl (.tmp 21) (.tmp 23) 80 rfl base 47 i0 (.slice none 0 0) 1 24 Try.underlying80 hi hz0 hz1 hz2 rfl (by decide) (.slice A n c) n xs rfl HA.out ⟨w1.heap.size, 0, none⟩ 1 1 [(.slice X p q)] rfl rfl HW.out (by simp [Value.oneCell']) (by decide) (by unfold maxLen; omega) (by omega) HL.out (w.heap.size + 1) z2.out ?_
                        intro g cc w2 ho2 hg2 hl2 hlt2
                        have HG := Lib.hid (grown_nx_l K2.out hg2)
                        have HO2 := Lib.hid ho2
                        have HX2 := Lib.hid (bx_of HX.out (hg2.block b (by rw [z2.out]; have := HLT.out; omega) (by rw [HV'.out]; exact fun e => HOB.out e.symm)))
                        have HL2 := Lib.hid hl2
                        have d0 := HX2.out.cell 0 rfl
                        have f0 := HX2.out.frozen 0
                        have e0 := (HX2.out.put 0 (.slice (some ⟨g, 0, none⟩) (n + 1) cc)).cell 0 rfl
                        have e2 := (HX2.out.put 0 (.slice (some ⟨g, 0, none⟩) (n + 1) cc)).cell 2 rfl
                        have f2 := (HX2.out.put 0 (.slice (some ⟨g, 0, none⟩) (n + 1) cc)).frozen 2
                        clear ho2 hg2 hl2 hlt2))
  go_region
  all_goals go_wp2
  · have hm : (md : Int) < (n : Int) + 1 := by assumption
    have hm' : max md (n + 1) = n + 1 := by omega
    go_ret
    exact ⟨rfl, push_done hbase HLT.out HOB.out HV'.out HX2.out HO2.out HG.out HL2.out (by rw [hm']; rfl)⟩
  · have hm : (n : Int) + 1 ≤ (md : Int) := by assumption
    have hm' : max md (n + 1) = md := by omega
    go_ret
    exact ⟨rfl, push_done hbase HLT.out HOB.out HV'.out HX2.out HO2.out HG.out HL2.out (by rw [hm'])⟩

set_option maxHeartbeats 800000 in
theorem push_full_u (x : Int) (base b : Nat) (o : Option Nat) (cap md : Nat) (xs : List Value) (w : World) (h : Stk w 84 54 base b o cap md xs) (hf : cap ≤ xs.length) :
    Calls Try.prog 23 #[.pointer (some ⟨b, 0, none⟩), (.int .u16 x)] w fun e w' => e = .returned (.int .i64 10) ∧ Nx w w' := by
  obtain ⟨_, _, v, _, hb, ho⟩ := h
  obtain ⟨A, c, rfl, _⟩ := own_form ho
  have c0 := hb.cell 0 rfl
  have c1 := hb.cell 1 rfl
  have t1 : (cap : Int) ≤ (xs.length : Int) := by omega
  clear hb ho hf
  generalize xs.length = n at *
  go_enter Try.func23, Try.ntmps23
  go_wp2
  go_quiet (fail)
  go_wp2
  go_ret
  exact ⟨rfl, (by repeat (first | exact Nx.refl _ | assumption | refine Nx.drewN ?_ _ | refine Nx.drew ?_ | refine Nx.alloc ?_ _ | refine Nx.set ?_ (by first | exact Nat.le_refl _ | (simp; done) | (simp; omega)) _))⟩

set_option maxHeartbeats 1600000 in
theorem push_ok_u (x : Int) (base b : Nat) (o : Option Nat) (cap md : Nat) (xs : List Value) (w : World) (h : Stk w 84 54 base b o cap md xs) (hf : xs.length < cap) (hc : cap ≤ 4096) :
    Calls Try.prog 23 #[.pointer (some ⟨b, 0, none⟩), (.int .u16 x)] w (PushPost 84 54 base b o cap (max md (xs.length + 1)) (xs ++ [(.int .u16 x)]) w) := by
  obtain ⟨hbase, hob, v, hv, hb, ho⟩ := h
  have hlt := hb.lt
  obtain ⟨A, c, rfl, _⟩ := own_form ho
  obtain ⟨i0, hi, hz0, hz1, hz2⟩ := info_parts infou
  have c0 := hb.cell 0 rfl
  have c1 := hb.cell 1 rfl
  have t1 : ¬ (cap : Int) ≤ (xs.length : Int) := by omega
  have HB := Lib.hid hb
  have HO := Lib.hid ho
  have HV := Lib.hid hv
  have HOB := Lib.hid hob
  clear hb ho hv hob
  obtain ⟨n, hn⟩ : ∃ n, xs.length = n := ⟨_, rfl⟩
  have HN := Lib.hid hn
  rw [hn] at t1 hf ⊢
  have HO' := Lib.hid (show w.ownsRow base 54 1 (.slice A n c) n xs by rw [← hn]; exact HO.out)
  rw [show (Value.slice A xs.length c) = .slice A n c by rw [hn]] at c0
  have HB' := Lib.hid (show Bx w b 84 [.slice A n c, .int .i64 (cap : Int), .int .i64 (md : Int)] by rw [← hn]; exact HB.out)
  have HV' := Lib.hid (show (Value.slice A n c).ownBlock = o by rw [← HV.out]; cases A <;> rfl)
  clear hn HO HB HV
  go_enter Try.func23, Try.ntmps23
  go_wp2
  go_quiet (fail)
  have K1 := Lib.hid ((Nx.refl w).drewN nq)
  have z1 := Lib.hid (show (w.drewN nq).heap.size = w.heap.size from rfl)
  have d0 : (w.drewN nq).cell? ⟨b, 0, none⟩ = some (.slice A n c) := c0
  clear c0 c1
  generalize w.drewN nq = w1 at *
  have K2 := Lib.hid (K1.out.alloc (.cells #[(.int .u16 x)] 54))
  have hlt1 : b < w1.heap.size := by rw [z1.out]; exact hlt
  have HLT := Lib.hid hlt
  clear hlt
  have HA := Lib.hid (own_of (w' := w1.alloc (.cells #[(.int .u16 x)] 54)) HO'.out (fun g _ hl => K2.out.block g hl))
  have HX := Lib.hid (HB'.out.nx K2.out)
  have HW := Lib.hid (new_one w1 ((.int .u16 x)) 54)
  have z2 := Lib.hid (show (w1.alloc (.cells #[(.int .u16 x)] 54)).heap.size = w.heap.size + 1 by simp [z1.out])
  have HL := Lib.hid (show base ≤ (w1.alloc (.cells #[(.int .u16 x)] 54)).heap.size by rw [z2.out]; have := HLT.out; omega)
  go_wp2_with (first | (at_builtin
                        refine wpList_append_lies _ rfl (.tmp 21) (.tmp 23) 50 rfl base 54 i0 (.int .u16 0) 1 2 Try.underlying50 hi hz0 hz1 hz2 rfl (by decide) (.slice A n c) n xs rfl HA.out ⟨w1.heap.size, 0, none⟩ 1 1 [(.int .u16 x)] rfl rfl HW.out (by simp [Value.oneCell']) (by decide) (by unfold maxLen; omega) (by omega) HL.out (w.heap.size + 1) z2.out ?_
                        intro g cc w2 ho2 hg2 hl2 hlt2
                        have HG := Lib.hid (grown_nx_l K2.out hg2)
                        have HO2 := Lib.hid ho2
                        have HX2 := Lib.hid (bx_of HX.out (hg2.block b (by rw [z2.out]; have := HLT.out; omega) (by rw [HV'.out]; exact fun e => HOB.out e.symm)))
                        have HL2 := Lib.hid hl2
                        have d0 := HX2.out.cell 0 rfl
                        have f0 := HX2.out.frozen 0
                        have e0 := (HX2.out.put 0 (.slice (some ⟨g, 0, none⟩) (n + 1) cc)).cell 0 rfl
                        have e2 := (HX2.out.put 0 (.slice (some ⟨g, 0, none⟩) (n + 1) cc)).cell 2 rfl
                        have f2 := (HX2.out.put 0 (.slice (some ⟨g, 0, none⟩) (n + 1) cc)).frozen 2
                        clear ho2 hg2 hl2 hlt2))
  go_region
  all_goals go_wp2
  · have hm : (md : Int) < (n : Int) + 1 := by assumption
    have hm' : max md (n + 1) = n + 1 := by omega
    go_ret
    exact ⟨rfl, push_done hbase HLT.out HOB.out HV'.out HX2.out HO2.out HG.out HL2.out (by rw [hm']; rfl)⟩
  · have hm : (n : Int) + 1 ≤ (md : Int) := by assumption
    have hm' : max md (n + 1) = md := by omega
    go_ret
    exact ⟨rfl, push_done hbase HLT.out HOB.out HV'.out HX2.out HO2.out HG.out HL2.out (by rw [hm'])⟩

set_option maxHeartbeats 800000 in
theorem push_full_i (x : Int) (base b : Nat) (o : Option Nat) (cap md : Nat) (xs : List Value) (w : World) (h : Stk w 86 3 base b o cap md xs) (hf : cap ≤ xs.length) :
    Calls Try.prog 29 #[.pointer (some ⟨b, 0, none⟩), (.int .i64 x)] w fun e w' => e = .returned (.int .i64 10) ∧ Nx w w' := by
  obtain ⟨_, _, v, _, hb, ho⟩ := h
  obtain ⟨A, c, rfl, _⟩ := own_form ho
  have c0 := hb.cell 0 rfl
  have c1 := hb.cell 1 rfl
  have t1 : (cap : Int) ≤ (xs.length : Int) := by omega
  clear hb ho hf
  generalize xs.length = n at *
  go_enter Try.func29, Try.ntmps29
  go_wp2
  go_quiet (fail)
  go_wp2
  go_ret
  exact ⟨rfl, (by repeat (first | exact Nx.refl _ | assumption | refine Nx.drewN ?_ _ | refine Nx.drew ?_ | refine Nx.alloc ?_ _ | refine Nx.set ?_ (by first | exact Nat.le_refl _ | (simp; done) | (simp; omega)) _))⟩

set_option maxHeartbeats 1600000 in
theorem push_ok_i (x : Int) (base b : Nat) (o : Option Nat) (cap md : Nat) (xs : List Value) (w : World) (h : Stk w 86 3 base b o cap md xs) (hf : xs.length < cap) (hc : cap ≤ 4096) :
    Calls Try.prog 29 #[.pointer (some ⟨b, 0, none⟩), (.int .i64 x)] w (PushPost 86 3 base b o cap (max md (xs.length + 1)) (xs ++ [(.int .i64 x)]) w) := by
  obtain ⟨hbase, hob, v, hv, hb, ho⟩ := h
  have hlt := hb.lt
  obtain ⟨A, c, rfl, _⟩ := own_form ho
  obtain ⟨i0, hi, hz0, hz1, hz2⟩ := info_parts infoi
  have c0 := hb.cell 0 rfl
  have c1 := hb.cell 1 rfl
  have t1 : ¬ (cap : Int) ≤ (xs.length : Int) := by omega
  have HB := Lib.hid hb
  have HO := Lib.hid ho
  have HV := Lib.hid hv
  have HOB := Lib.hid hob
  clear hb ho hv hob
  obtain ⟨n, hn⟩ : ∃ n, xs.length = n := ⟨_, rfl⟩
  have HN := Lib.hid hn
  rw [hn] at t1 hf ⊢
  have HO' := Lib.hid (show w.ownsRow base 3 1 (.slice A n c) n xs by rw [← hn]; exact HO.out)
  rw [show (Value.slice A xs.length c) = .slice A n c by rw [hn]] at c0
  have HB' := Lib.hid (show Bx w b 86 [.slice A n c, .int .i64 (cap : Int), .int .i64 (md : Int)] by rw [← hn]; exact HB.out)
  have HV' := Lib.hid (show (Value.slice A n c).ownBlock = o by rw [← HV.out]; cases A <;> rfl)
  clear hn HO HB HV
  go_enter Try.func29, Try.ntmps29
  go_wp2
  go_quiet (fail)
  have K1 := Lib.hid ((Nx.refl w).drewN nq)
  have z1 := Lib.hid (show (w.drewN nq).heap.size = w.heap.size from rfl)
  have d0 : (w.drewN nq).cell? ⟨b, 0, none⟩ = some (.slice A n c) := c0
  clear c0 c1
  generalize w.drewN nq = w1 at *
  have K2 := Lib.hid (K1.out.alloc (.cells #[(.int .i64 x)] 3))
  have hlt1 : b < w1.heap.size := by rw [z1.out]; exact hlt
  have HLT := Lib.hid hlt
  clear hlt
  have HA := Lib.hid (own_of (w' := w1.alloc (.cells #[(.int .i64 x)] 3)) HO'.out (fun g _ hl => K2.out.block g hl))
  have HX := Lib.hid (HB'.out.nx K2.out)
  have HW := Lib.hid (new_one w1 ((.int .i64 x)) 3)
  have z2 := Lib.hid (show (w1.alloc (.cells #[(.int .i64 x)] 3)).heap.size = w.heap.size + 1 by simp [z1.out])
  have HL := Lib.hid (show base ≤ (w1.alloc (.cells #[(.int .i64 x)] 3)).heap.size by rw [z2.out]; have := HLT.out; omega)
  go_wp2_with (first | (at_builtin
                        refine wpList_append_lies _ rfl (.tmp 21) (.tmp 23) 47 rfl base 3 i0 (.int .i64 0) 1 8 Try.underlying47 hi hz0 hz1 hz2 rfl (by decide) (.slice A n c) n xs rfl HA.out ⟨w1.heap.size, 0, none⟩ 1 1 [(.int .i64 x)] rfl rfl HW.out (by simp [Value.oneCell']) (by decide) (by unfold maxLen; omega) (by omega) HL.out (w.heap.size + 1) z2.out ?_
                        intro g cc w2 ho2 hg2 hl2 hlt2
                        have HG := Lib.hid (grown_nx_l K2.out hg2)
                        have HO2 := Lib.hid ho2
                        have HX2 := Lib.hid (bx_of HX.out (hg2.block b (by rw [z2.out]; have := HLT.out; omega) (by rw [HV'.out]; exact fun e => HOB.out e.symm)))
                        have HL2 := Lib.hid hl2
                        have d0 := HX2.out.cell 0 rfl
                        have f0 := HX2.out.frozen 0
                        have e0 := (HX2.out.put 0 (.slice (some ⟨g, 0, none⟩) (n + 1) cc)).cell 0 rfl
                        have e2 := (HX2.out.put 0 (.slice (some ⟨g, 0, none⟩) (n + 1) cc)).cell 2 rfl
                        have f2 := (HX2.out.put 0 (.slice (some ⟨g, 0, none⟩) (n + 1) cc)).frozen 2
                        clear ho2 hg2 hl2 hlt2))
  go_region
  all_goals go_wp2
  · have hm : (md : Int) < (n : Int) + 1 := by assumption
    have hm' : max md (n + 1) = n + 1 := by omega
    go_ret
    exact ⟨rfl, push_done hbase HLT.out HOB.out HV'.out HX2.out HO2.out HG.out HL2.out (by rw [hm']; rfl)⟩
  · have hm : (n : Int) + 1 ≤ (md : Int) := by assumption
    have hm' : max md (n + 1) = md := by omega
    go_ret
    exact ⟨rfl, push_done hbase HLT.out HOB.out HV'.out HX2.out HO2.out HG.out HL2.out (by rw [hm'])⟩

set_option maxHeartbeats 800000 in
theorem push_full_h (x : Int) (base b : Nat) (o : Option Nat) (cap md : Nat) (xs : List Value) (w : World) (h : Stk w 88 71 base b o cap md xs) (hf : cap ≤ xs.length) :
    Calls Try.prog 34 #[.pointer (some ⟨b, 0, none⟩), (.int .i16 x)] w fun e w' => e = .returned (.int .i64 10) ∧ Nx w w' := by
  obtain ⟨_, _, v, _, hb, ho⟩ := h
  obtain ⟨A, c, rfl, _⟩ := own_form ho
  have c0 := hb.cell 0 rfl
  have c1 := hb.cell 1 rfl
  have t1 : (cap : Int) ≤ (xs.length : Int) := by omega
  clear hb ho hf
  generalize xs.length = n at *
  go_enter Try.func34, Try.ntmps34
  go_wp2
  go_quiet (fail)
  go_wp2
  go_ret
  exact ⟨rfl, (by repeat (first | exact Nx.refl _ | assumption | refine Nx.drewN ?_ _ | refine Nx.drew ?_ | refine Nx.alloc ?_ _ | refine Nx.set ?_ (by first | exact Nat.le_refl _ | (simp; done) | (simp; omega)) _))⟩

set_option maxHeartbeats 1600000 in
theorem push_ok_h (x : Int) (base b : Nat) (o : Option Nat) (cap md : Nat) (xs : List Value) (w : World) (h : Stk w 88 71 base b o cap md xs) (hf : xs.length < cap) (hc : cap ≤ 4096) :
    Calls Try.prog 34 #[.pointer (some ⟨b, 0, none⟩), (.int .i16 x)] w (PushPost 88 71 base b o cap (max md (xs.length + 1)) (xs ++ [(.int .i16 x)]) w) := by
  obtain ⟨hbase, hob, v, hv, hb, ho⟩ := h
  have hlt := hb.lt
  obtain ⟨A, c, rfl, _⟩ := own_form ho
  obtain ⟨i0, hi, hz0, hz1, hz2⟩ := info_parts infoh
  have c0 := hb.cell 0 rfl
  have c1 := hb.cell 1 rfl
  have t1 : ¬ (cap : Int) ≤ (xs.length : Int) := by omega
  have HB := Lib.hid hb
  have HO := Lib.hid ho
  have HV := Lib.hid hv
  have HOB := Lib.hid hob
  clear hb ho hv hob
  obtain ⟨n, hn⟩ : ∃ n, xs.length = n := ⟨_, rfl⟩
  have HN := Lib.hid hn
  rw [hn] at t1 hf ⊢
  have HO' := Lib.hid (show w.ownsRow base 71 1 (.slice A n c) n xs by rw [← hn]; exact HO.out)
  rw [show (Value.slice A xs.length c) = .slice A n c by rw [hn]] at c0
  have HB' := Lib.hid (show Bx w b 88 [.slice A n c, .int .i64 (cap : Int), .int .i64 (md : Int)] by rw [← hn]; exact HB.out)
  have HV' := Lib.hid (show (Value.slice A n c).ownBlock = o by rw [← HV.out]; cases A <;> rfl)
  clear hn HO HB HV
  go_enter Try.func34, Try.ntmps34
  go_wp2
  go_quiet (fail)
  have K1 := Lib.hid ((Nx.refl w).drewN nq)
  have z1 := Lib.hid (show (w.drewN nq).heap.size = w.heap.size from rfl)
  have d0 : (w.drewN nq).cell? ⟨b, 0, none⟩ = some (.slice A n c) := c0
  clear c0 c1
  generalize w.drewN nq = w1 at *
  have K2 := Lib.hid (K1.out.alloc (.cells #[(.int .i16 x)] 71))
  have hlt1 : b < w1.heap.size := by rw [z1.out]; exact hlt
  have HLT := Lib.hid hlt
  clear hlt
  have HA := Lib.hid (own_of (w' := w1.alloc (.cells #[(.int .i16 x)] 71)) HO'.out (fun g _ hl => K2.out.block g hl))
  have HX := Lib.hid (HB'.out.nx K2.out)
  have HW := Lib.hid (new_one w1 ((.int .i16 x)) 71)
  have z2 := Lib.hid (show (w1.alloc (.cells #[(.int .i16 x)] 71)).heap.size = w.heap.size + 1 by simp [z1.out])
  have HL := Lib.hid (show base ≤ (w1.alloc (.cells #[(.int .i16 x)] 71)).heap.size by rw [z2.out]; have := HLT.out; omega)
  go_wp2_with (first | (at_builtin
                        refine wpList_append_lies _ rfl (.tmp 21) (.tmp 23) 67 rfl base 71 i0 (.int .i16 0) 1 2 Try.underlying67 hi hz0 hz1 hz2 rfl (by decide) (.slice A n c) n xs rfl HA.out ⟨w1.heap.size, 0, none⟩ 1 1 [(.int .i16 x)] rfl rfl HW.out (by simp [Value.oneCell']) (by decide) (by unfold maxLen; omega) (by omega) HL.out (w.heap.size + 1) z2.out ?_
                        intro g cc w2 ho2 hg2 hl2 hlt2
                        have HG := Lib.hid (grown_nx_l K2.out hg2)
                        have HO2 := Lib.hid ho2
                        have HX2 := Lib.hid (bx_of HX.out (hg2.block b (by rw [z2.out]; have := HLT.out; omega) (by rw [HV'.out]; exact fun e => HOB.out e.symm)))
                        have HL2 := Lib.hid hl2
                        have d0 := HX2.out.cell 0 rfl
                        have f0 := HX2.out.frozen 0
                        have e0 := (HX2.out.put 0 (.slice (some ⟨g, 0, none⟩) (n + 1) cc)).cell 0 rfl
                        have e2 := (HX2.out.put 0 (.slice (some ⟨g, 0, none⟩) (n + 1) cc)).cell 2 rfl
                        have f2 := (HX2.out.put 0 (.slice (some ⟨g, 0, none⟩) (n + 1) cc)).frozen 2
                        clear ho2 hg2 hl2 hlt2))
  go_region
  all_goals go_wp2
  · have hm : (md : Int) < (n : Int) + 1 := by assumption
    have hm' : max md (n + 1) = n + 1 := by omega
    go_ret
    exact ⟨rfl, push_done hbase HLT.out HOB.out HV'.out HX2.out HO2.out HG.out HL2.out (by rw [hm']; rfl)⟩
  · have hm : (n : Int) + 1 ≤ (md : Int) := by assumption
    have hm' : max md (n + 1) = md := by omega
    go_ret
    exact ⟨rfl, push_done hbase HLT.out HOB.out HV'.out HX2.out HO2.out HG.out HL2.out (by rw [hm'])⟩

end Go.Proofs.Ytekhljgghjibmaa
