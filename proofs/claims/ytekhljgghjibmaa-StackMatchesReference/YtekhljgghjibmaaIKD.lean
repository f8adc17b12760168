/- What Pop and All of a stack do. Conditions: a stack of capacity at most 4096. -/
import Derived.Test.YtekhljgghjibmaaIKC
namespace Go.Proofs.Ytekhljgghjibmaa
open Go.RowKit

set_option maxHeartbeats 400000 in
theorem pop_none_st (base b : Nat) (o : Option Nat) (cap md : Nat) (w : World) (h : Stk w 78 9 base b o cap md []) :
    Calls Try.prog 13 #[.pointer (some ⟨b, 0, none⟩)] w fun e w' => e = .returned (.tuple #[.string ⟨#[]⟩, .int .i64 18]) ∧ w = w' := by
  obtain ⟨_, _, v, _, hb, ho⟩ := h
  obtain ⟨A, c, rfl, _⟩ := own_form ho
  have c0 := hb.cell 0 rfl
  clear hb ho
  go_enter Try.func13, Try.ntmps13
  go_wp2
  go_ret2
  exact ⟨rfl, rfl⟩
set_option maxHeartbeats 1600000 in
theorem pop_ok_st (base b : Nat) (o : Option Nat) (cap md : Nat) (xs : List Value) (x : Value) (w : World) (h : Stk w 78 9 base b o cap md (xs ++ [x])) (hl : xs.length ≤ 4096) :
    Calls Try.prog 13 #[.pointer (some ⟨b, 0, none⟩)] w (PopPost 78 9 base b o cap md xs x w) := by
  obtain ⟨hbase, hob, v, hv, hb, ho⟩ := h
  rw [List.length_append, List.length_singleton] at ho
  obtain ⟨g, c, rfl, hbg, hgs⟩ := ho.form (by omega)
  obtain ⟨n, hn⟩ : ∃ n, xs.length = n := ⟨_, rfl⟩
  rw [hn] at hl ho hb
  have hcg := ho.cellAt n (by omega)
  rw [List.getElem?_append_right (by omega), hn, Nat.sub_self] at hcg
  have hfg := ho.frozenAt n
  have hov : o = some g := by rw [← hv]; rfl
  subst hov
  have hne : g ≠ b := by intro e; exact hob (by rw [e])
  have HST := Lib.hid (own_pop ho hn (.string ⟨#[]⟩))
  have HX := Lib.hid (show Bx (w.setCell ⟨g, n, none⟩ (.string ⟨#[]⟩)) b 78 [.slice (some ⟨g, 0, none⟩) (n + 1) c, .int .i64 (cap : Int), .int .i64 (md : Int)] from hb.far (Ne.symm hne) _)
  have c0 := hb.cell 0 rfl
  have e0 := HX.out.cell 0 rfl
  have f0 := HX.out.frozen 0
  have hcc : n + 1 ≤ c := own_cap ho
  have HV := Lib.hid hv
  have HN := Lib.hid hn
  have HF := Lib.hid (pop_done (md := md) (cap := cap) (T := 78) (E := 9) hbase hne HX.out HST.out HN.out)
  clear hb ho hv hob hn
  go_enter Try.func13, Try.ntmps13
  go_wp2
  go_ret2
  exact ⟨rfl, HF.out⟩
set_option maxHeartbeats 1600000 in
theorem all_st (base b : Nat) (o : Option Nat) (cap md : Nat) (xs : List Value) (w : World) (h : Stk w 78 9 base b o cap md xs) (hl : xs.length ≤ 4096) (h1 : ∀ u ∈ xs, u.oneCell' = true) :
    Calls Try.prog 16 #[.pointer (some ⟨b, 0, none⟩)] w (AllPost 9 xs w) := by
  obtain ⟨_, _, v, _, hb, ho⟩ := h
  obtain ⟨n, hn⟩ : ∃ n, xs.length = n := ⟨_, rfl⟩
  unfold AllPost
  rw [hn] at hl ho ⊢
  obtain ⟨A, c, rfl, hr⟩ := own_form ho
  have hmk := run_make_row' (P := Try.prog) 30 9 (.string ⟨#[]⟩) 16 Try.underlying30 infost rfl .i64 .i64 n (by omega) (by omega)
  have hlt := hb.lt
  have HX := Lib.hid (hb.nx (Nx.one w (.cells (madeCells #[.string ⟨#[]⟩] n) 9)))
  have c0 := hb.cell 0 rfl
  have d0 := HX.out.cell 0 rfl
  have HSZ := Lib.hid (show (Try.prog.info? 9).map (·.size) = some 1 by kernel_rfl)
  have HN := Lib.hid hn
  have HSRC := Lib.hid (show 0 < xs.length → (some (⟨w.heap.size, 0, none⟩ : Addr)) = some ⟨w.heap.size, 0, none⟩ ∧ ∃ ad, A = some ad ∧ ∀ j v, xs[j]? = some v → (w.alloc (.cells (madeCells #[.string ⟨#[]⟩] n) 9)).cell? (ad.add j) = some v by
    intro hp
    obtain ⟨ad, rfl, _⟩ := hr 0 _ (List.getElem?_eq_getElem hp)
    refine ⟨rfl, ad, rfl, fun j v hj => ?_⟩
    obtain ⟨ad', e, hc⟩ := hr j v hj
    obtain rfl := Option.some.inj e
    exact (Nx.one w _).cell hc)
  have HBL := Lib.hid (show (w.alloc (.cells (madeCells #[.string ⟨#[]⟩] n) 9)).heap[w.heap.size]? = some (.cells (List.replicate n (.string ⟨#[]⟩)).toArray 9 (0, 0)) by
    rw [← toList_madeCells_one]; exact heap_alloc_new w _)
  have H1 := Lib.hid h1
  clear hb ho hr hn h1
  go_enter Try.func16, Try.ntmps16
  go_wp2_with (first
    | (refine wpList_copy_splice rfl (.tmp 12) (.tmp 16) 30 30 rfl 9 Try.underlying30 HSZ.out (some ⟨w.heap.size, 0, none⟩) A n n n c rfl rfl w.heap.size 0 (List.replicate n (.string ⟨#[]⟩)) 9 HBL.out xs (by rw [HN.out]; simp) HSRC.out (by rw [HN.out, List.length_replicate]; omega) H1.out w.heap.size w (Below.alloc (Below.refl _ _) (Nat.le_refl _) _) (Nat.le_refl _) ?_
       intro w2 hg2 hb2
       have HO := Lib.hid (own_block (base := w.heap.size) HN.out (Nat.le_refl _) (by have := hg2.out; rwa [splice_whole n _ xs HN.out] at this) (by omega))
       have HB := Lib.hid (show Nx w w2 from hb2)
       clear hg2 hb2))
  go_ret
  exact ⟨rfl, HO.out, HB.out⟩

set_option maxHeartbeats 400000 in
theorem pop_none_u (base b : Nat) (o : Option Nat) (cap md : Nat) (w : World) (h : Stk w 84 54 base b o cap md []) :
    Calls Try.prog 26 #[.pointer (some ⟨b, 0, none⟩)] w fun e w' => e = .returned (.tuple #[.int .u16 0, .int .i64 18]) ∧ w = w' := by
  obtain ⟨_, _, v, _, hb, ho⟩ := h
  obtain ⟨A, c, rfl, _⟩ := own_form ho
  have c0 := hb.cell 0 rfl
  clear hb ho
  go_enter Try.func26, Try.ntmps26
  go_wp2
  go_ret2
  exact ⟨rfl, rfl⟩
set_option maxHeartbeats 1600000 in
theorem pop_ok_u (base b : Nat) (o : Option Nat) (cap md : Nat) (xs : List Value) (x : Value) (w : World) (h : Stk w 84 54 base b o cap md (xs ++ [x])) (hl : xs.length ≤ 4096) :
    Calls Try.prog 26 #[.pointer (some ⟨b, 0, none⟩)] w (PopPost 84 54 base b o cap md xs x w) := by
  obtain ⟨hbase, hob, v, hv, hb, ho⟩ := h
  rw [List.length_append, List.length_singleton] at ho
  obtain ⟨g, c, rfl, hbg, hgs⟩ := ho.form (by omega)
  obtain ⟨n, hn⟩ : ∃ n, xs.length = n := ⟨_, rfl⟩
  rw [hn] at hl ho hb
  have hcg := ho.cellAt n (by omega)
  rw [List.getElem?_append_right (by omega), hn, Nat.sub_self] at hcg
  have hfg := ho.frozenAt n
  have hov : o = some g := by rw [← hv]; rfl
  subst hov
  have hne : g ≠ b := by intro e; exact hob (by rw [e])
  have HST := Lib.hid (own_pop ho hn (.int .u16 0))
  have HX := Lib.hid (show Bx (w.setCell ⟨g, n, none⟩ (.int .u16 0)) b 84 [.slice (some ⟨g, 0, none⟩) (n + 1) c, .int .i64 (cap : Int), .int .i64 (md : Int)] from hb.far (Ne.symm hne) _)
  have c0 := hb.cell 0 rfl
  have e0 := HX.out.cell 0 rfl
  have f0 := HX.out.frozen 0
  have hcc : n + 1 ≤ c := own_cap ho
  have HV := Lib.hid hv
  have HN := Lib.hid hn
  have HF := Lib.hid (pop_done (md := md) (cap := cap) (T := 84) (E := 54) hbase hne HX.out HST.out HN.out)
  clear hb ho hv hob hn
  go_enter Try.func26, Try.ntmps26
  go_wp2
  go_ret2
  exact ⟨rfl, HF.out⟩
set_option maxHeartbeats 1600000 in
theorem all_u (base b : Nat) (o : Option Nat) (cap md : Nat) (xs : List Value) (w : World) (h : Stk w 84 54 base b o cap md xs) (hl : xs.length ≤ 4096) (h1 : ∀ u ∈ xs, u.oneCell' = true) :
    Calls Try.prog 25 #[.pointer (some ⟨b, 0, none⟩)] w (AllPost 54 xs w) := by
  obtain ⟨_, _, v, _, hb, ho⟩ := h
  obtain ⟨n, hn⟩ : ∃ n, xs.length = n := ⟨_, rfl⟩
  unfold AllPost
  rw [hn] at hl ho ⊢
  obtain ⟨A, c, rfl, hr⟩ := own_form ho
  have hmk := run_make_row' (P := Try.prog) 50 54 (.int .u16 0) 2 Try.underlying50 infou rfl .i64 .i64 n (by omega) (by omega)
  have hlt := hb.lt
  have HX := Lib.hid (hb.nx (Nx.one w (.cells (madeCells #[.int .u16 0] n) 54)))
  have c0 := hb.cell 0 rfl
  have d0 := HX.out.cell 0 rfl
  have HSZ := Lib.hid (show (Try.prog.info? 54).map (·.size) = some 1 by kernel_rfl)
  have HN := Lib.hid hn
  have HSRC := Lib.hid (show 0 < xs.length → (some (⟨w.heap.size, 0, none⟩ : Addr)) = some ⟨w.heap.size, 0, none⟩ ∧ ∃ ad, A = some ad ∧ ∀ j v, xs[j]? = some v → (w.alloc (.cells (madeCells #[.int .u16 0] n) 54)).cell? (ad.add j) = some v by
    intro hp
    obtain ⟨ad, rfl, _⟩ := hr 0 _ (List.getElem?_eq_getElem hp)
    refine ⟨rfl, ad, rfl, fun j v hj => ?_⟩
    obtain ⟨ad', e, hc⟩ := hr j v hj
    obtain rfl := Option.some.inj e
    exact (Nx.one w _).cell hc)
  have HBL := Lib.hid (show (w.alloc (.cells (madeCells #[.int .u16 0] n) 54)).heap[w.heap.size]? = some (.cells (List.replicate n (.int .u16 0)).toArray 54 (0, 0)) by
    rw [← toList_madeCells_one]; exact heap_alloc_new w _)
  have H1 := Lib.hid h1
  clear hb ho hr hn h1
  go_enter Try.func25, Try.ntmps25
  go_wp2_with (first
    | (refine wpList_copy_splice rfl (.tmp 12) (.tmp 16) 50 50 rfl 54 Try.underlying50 HSZ.out (some ⟨w.heap.size, 0, none⟩) A n n n c rfl rfl w.heap.size 0 (List.replicate n (.int .u16 0)) 54 HBL.out xs (by rw [HN.out]; simp) HSRC.out (by rw [HN.out, List.length_replicate]; omega) H1.out w.heap.size w (Below.alloc (Below.refl _ _) (Nat.le_refl _) _) (Nat.le_refl _) ?_
       intro w2 hg2 hb2
       have HO := Lib.hid (own_block (base := w.heap.size) HN.out (Nat.le_refl _) (by have := hg2.out; rwa [splice_whole n _ xs HN.out] at this) (by omega))
       have HB := Lib.hid (show Nx w w2 from hb2)
       clear hg2 hb2))
  go_ret
  exact ⟨rfl, HO.out, HB.out⟩

set_option maxHeartbeats 400000 in
theorem pop_none_i (base b : Nat) (o : Option Nat) (cap md : Nat) (w : World) (h : Stk w 86 3 base b o cap md []) :
    Calls Try.prog 31 #[.pointer (some ⟨b, 0, none⟩)] w fun e w' => e = .returned (.tuple #[.int .i64 0, .int .i64 18]) ∧ w = w' := by
  obtain ⟨_, _, v, _, hb, ho⟩ := h
  obtain ⟨A, c, rfl, _⟩ := own_form ho
  have c0 := hb.cell 0 rfl
  clear hb ho
  go_enter Try.func31, Try.ntmps31
  go_wp2
  go_ret2
  exact ⟨rfl, rfl⟩
set_option maxHeartbeats 1600000 in
theorem pop_ok_i (base b : Nat) (o : Option Nat) (cap md : Nat) (xs : List Value) (x : Value) (w : World) (h : Stk w 86 3 base b o cap md (xs ++ [x])) (hl : xs.length ≤ 4096) :
    Calls Try.prog 31 #[.pointer (some ⟨b, 0, none⟩)] w (PopPost 86 3 base b o cap md xs x w) := by
  obtain ⟨hbase, hob, v, hv, hb, ho⟩ := h
  rw [List.length_append, List.length_singleton] at ho
  obtain ⟨g, c, rfl, hbg, hgs⟩ := ho.form (by omega)
  obtain ⟨n, hn⟩ : ∃ n, xs.length = n := ⟨_, rfl⟩
  rw [hn] at hl ho hb
  have hcg := ho.cellAt n (by omega)
  rw [List.getElem?_append_right (by omega), hn, Nat.sub_self] at hcg
  have hfg := ho.frozenAt n
  have hov : o = some g := by rw [← hv]; rfl
  subst hov
  have hne : g ≠ b := by intro e; exact hob (by rw [e])
  have HST := Lib.hid (own_pop ho hn (.int .i64 0))
  have HX := Lib.hid (show Bx (w.setCell ⟨g, n, none⟩ (.int .i64 0)) b 86 [.slice (some ⟨g, 0, none⟩) (n + 1) c, .int .i64 (cap : Int), .int .i64 (md : Int)] from hb.far (Ne.symm hne) _)
  have c0 := hb.cell 0 rfl
  have e0 := HX.out.cell 0 rfl
  have f0 := HX.out.frozen 0
  have hcc : n + 1 ≤ c := own_cap ho
  have HV := Lib.hid hv
  have HN := Lib.hid hn
  have HF := Lib.hid (pop_done (md := md) (cap := cap) (T := 86) (E := 3) hbase hne HX.out HST.out HN.out)
  clear hb ho hv hob hn
  go_enter Try.func31, Try.ntmps31
  go_wp2
  go_ret2
  exact ⟨rfl, HF.out⟩
set_option maxHeartbeats 400000 in
theorem pop_none_h (base b : Nat) (o : Option Nat) (cap md : Nat) (w : World) (h : Stk w 88 71 base b o cap md []) :
    Calls Try.prog 36 #[.pointer (some ⟨b, 0, none⟩)] w fun e w' => e = .returned (.tuple #[.int .i16 0, .int .i64 18]) ∧ w = w' := by
  obtain ⟨_, _, v, _, hb, ho⟩ := h
  obtain ⟨A, c, rfl, _⟩ := own_form ho
  have c0 := hb.cell 0 rfl
  clear hb ho
  go_enter Try.func36, Try.ntmps36
  go_wp2
  go_ret2
  exact ⟨rfl, rfl⟩
set_option maxHeartbeats 1600000 in
theorem pop_ok_h (base b : Nat) (o : Option Nat) (cap md : Nat) (xs : List Value) (x : Value) (w : World) (h : Stk w 88 71 base b o cap md (xs ++ [x])) (hl : xs.length ≤ 4096) :
    Calls Try.prog 36 #[.pointer (some ⟨b, 0, none⟩)] w (PopPost 88 71 base b o cap md xs x w) := by
  obtain ⟨hbase, hob, v, hv, hb, ho⟩ := h
  rw [List.length_append, List.length_singleton] at ho
  obtain ⟨g, c, rfl, hbg, hgs⟩ := ho.form (by omega)
  obtain ⟨n, hn⟩ : ∃ n, xs.length = n := ⟨_, rfl⟩
  rw [hn] at hl ho hb
  have hcg := ho.cellAt n (by omega)
  rw [List.getElem?_append_right (by omega), hn, Nat.sub_self] at hcg
  have hfg := ho.frozenAt n
  have hov : o = some g := by rw [← hv]; rfl
  subst hov
  have hne : g ≠ b := by intro e; exact hob (by rw [e])
  have HST := Lib.hid (own_pop ho hn (.int .i16 0))
  have HX := Lib.hid (show Bx (w.setCell ⟨g, n, none⟩ (.int .i16 0)) b 88 [.slice (some ⟨g, 0, none⟩) (n + 1) c, .int .i64 (cap : Int), .int .i64 (md : Int)] from hb.far (Ne.symm hne) _)
  have c0 := hb.cell 0 rfl
  have e0 := HX.out.cell 0 rfl
  have f0 := HX.out.frozen 0
  have hcc : n + 1 ≤ c := own_cap ho
  have HV := Lib.hid hv
  have HN := Lib.hid hn
  have HF := Lib.hid (pop_done (md := md) (cap := cap) (T := 88) (E := 71) hbase hne HX.out HST.out HN.out)
  clear hb ho hv hob hn
  go_enter Try.func36, Try.ntmps36
  go_wp2
  go_ret2
  exact ⟨rfl, HF.out⟩
set_option maxHeartbeats 1600000 in
theorem all_h (base b : Nat) (o : Option Nat) (cap md : Nat) (xs : List Value) (w : World) (h : Stk w 88 71 base b o cap md xs) (hl : xs.length ≤ 4096) (h1 : ∀ u ∈ xs, u.oneCell' = true) :
    Calls Try.prog 38 #[.pointer (some ⟨b, 0, none⟩)] w (AllPost 71 xs w) := by
  obtain ⟨_, _, v, _, hb, ho⟩ := h
  obtain ⟨n, hn⟩ : ∃ n, xs.length = n := ⟨_, rfl⟩
  unfold AllPost
  rw [hn] at hl ho ⊢
  obtain ⟨A, c, rfl, hr⟩ := own_form ho
  have hmk := run_make_row' (P := Try.prog) 67 71 (.int .i16 0) 2 Try.underlying67 infoh rfl .i64 .i64 n (by omega) (by omega)
  have hlt := hb.lt
  have HX := Lib.hid (hb.nx (Nx.one w (.cells (madeCells #[.int .i16 0] n) 71)))
  have c0 := hb.cell 0 rfl
  have d0 := HX.out.cell 0 rfl
  have HSZ := Lib.hid (show (Try.prog.info? 71).map (·.size) = some 1 by kernel_rfl)
  have HN := Lib.hid hn
  have HSRC := Lib.hid (show 0 < xs.length → (some (⟨w.heap.size, 0, none⟩ : Addr)) = some ⟨w.heap.size, 0, none⟩ ∧ ∃ ad, A = some ad ∧ ∀ j v, xs[j]? = some v → (w.alloc (.cells (madeCells #[.int .i16 0] n) 71)).cell? (ad.add j) = some v by
    intro hp
    obtain ⟨ad, rfl, _⟩ := hr 0 _ (List.getElem?_eq_getElem hp)
    refine ⟨rfl, ad, rfl, fun j v hj => ?_⟩
    obtain ⟨ad', e, hc⟩ := hr j v hj
    obtain rfl := Option.some.inj e
    exact (Nx.one w _).cell hc)
  have HBL := Lib.hid (show (w.alloc (.cells (madeCells #[.int .i16 0] n) 71)).heap[w.heap.size]? = some (.cells (List.replicate n (.int .i16 0)).toArray 71 (0, 0)) by
    rw [← toList_madeCells_one]; exact heap_alloc_new w _)
  have H1 := Lib.hid h1
  clear hb ho hr hn h1
  go_enter Try.func38, Try.ntmps38
  go_wp2_with (first
    | (refine wpList_copy_splice rfl (.tmp 12) (.tmp 16) 67 67 rfl 71 Try.underlying67 HSZ.out (some ⟨w.heap.size, 0, none⟩) A n n n c rfl rfl w.heap.size 0 (List.replicate n (.int .i16 0)) 71 HBL.out xs (by rw [HN.out]; simp) HSRC.out (by rw [HN.out, List.length_replicate]; omega) H1.out w.heap.size w (Below.alloc (Below.refl _ _) (Nat.le_refl _) _) (Nat.le_refl _) ?_
       intro w2 hg2 hb2
       have HO := Lib.hid (own_block (base := w.heap.size) HN.out (Nat.le_refl _) (by have := hg2.out; rwa [splice_whole n _ xs HN.out] at this) (by omega))
       have HB := Lib.hid (show Nx w w2 from hb2)
       clear hg2 hb2))
  go_ret
  exact ⟨rfl, HO.out, HB.out⟩

end Go.Proofs.Ytekhljgghjibmaa
