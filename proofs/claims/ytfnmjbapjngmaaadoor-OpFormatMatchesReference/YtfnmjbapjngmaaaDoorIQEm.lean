/- What the reference's Parse of layer 4 returns. Conditions: a text of at most 100000 bytes. -/
import Derived.Test.YtfnmjbapjngmaaaDoorIQEb
import Derived.Deep.RegionWith
namespace Go.Proofs.YtfnmjbapjngmaaaDoor
open Go.RowKit

set_option maxHeartbeats 6400000 in
set_option maxRecDepth 100000 in
theorem refOpParse_m (t : ByteArray) (ht : t.size ≤ 100000) (hfm : ∀ a r, wds (B t) = a :: r → frm (ixm a) = -1) (w : World) :
    Calls Tryd.prog 18 #[.string t] w fun e w' => e = .returned (.tuple #[.agg #[.int .i64 (rs (opP (B t))).1, .int .i64 (rs (opP (B t))).2.1, .int .i64 (rs (opP (B t))).2.2.1, .int .i64 (rs (opP (B t))).2.2.2.1], .int .i64 (rs (opP (B t))).2.2.2.2]) ∧ Nx w w' := by
  have CT := Lib.hid (cut_any t ht)
  have HP := Lib.hid (show opP (B t) = opL (wds (B t)) from rfl)
  have HL := Lib.hid (wds_sizes t)
  have HM := Lib.hid hfm
  clear hfm
  obtain ⟨R, hR⟩ : ∃ R, opP (B t) = R := ⟨_, rfl⟩
  rw [hR] at HP ⊢
  have N0 := Lib.hid (Nx.one w (.cells #[.int .i64 0, .int .i64 0, .int .i64 0, .int .i64 0] 35))
  have R0 := Lib.hid (bx_new w 35 [.int .i64 0, .int .i64 0, .int .i64 0, .int .i64 0])
  clear hR
  go_enter Tryd.func18, Tryd.ntmps18
  go_wp2_with fail
  generalize hV : w.alloc (.cells #[.int .i64 0, .int .i64 0, .int .i64 0, .int .i64 0] 35) = V at *
  generalize hrb : w.heap.size = rb at *
  refine (CT.out V).mono ?_
  rintro e w1 ⟨g, c, ps, rfl, hps, hwd, hg, q1⟩
  have hne : ps ≠ [] := by rintro rfl; exact wds_ne _ hps.symm
  obtain ⟨a, r, rfl⟩ : ∃ a r, ps = a :: r := by cases ps with | nil => exact absurd rfl hne | cons a r => exact ⟨a, r, rfl⟩
  have HR := Lib.hid (show opL (B a :: r.map B) = R by rw [HP.out, ← hps]; rfl)
  have HZ := Lib.hid (show ∀ x ∈ a :: r, x.size ≤ 100000 from fun x hx => Nat.le_trans (HL.out (B x) (by rw [← hps]; exact List.mem_map_of_mem hx) x rfl) ht)
  have BAD := Lib.hid (fun h => opL_bad (B a) (r.map B) h)
  have HFM := Lib.hid (HM.out (B a) (r.map B) (by rw [← hps]; rfl))
  have H1 := Lib.hid (N0.out.trans q1)
  have R1 := Lib.hid (R0.out.nx q1)
  have D1 := Lib.hid hwd
  have hgl : g < w1.heap.size := World.block_lt_of_cell? _ _ (hwd 0 a rfl)
  have hrl : rb < w1.heap.size := R1.out.lt
  have hgr : g ≠ rb := by have := R0.out.lt; omega
  clear hwd hps hne q1 HL HP CT HM
  have H2 := Lib.hid (H1.out.trans (Nx.one w1 (.cells #[.int .i64 (-1), .int .i64 0, .int .i64 0, .int .i64 0] 35)))
  have R2 := Lib.hid (R1.out.nx (Nx.one w1 (.cells #[.int .i64 (-1), .int .i64 0, .int .i64 0, .int .i64 0] 35)))
  have D2 := Lib.hid (D1.out.nx (Nx.one w1 (.cells #[.int .i64 (-1), .int .i64 0, .int .i64 0, .int .i64 0] 35)))
  have X2 := Lib.hid (bx_new w1 35 [.int .i64 (-1), .int .i64 0, .int .i64 0, .int .i64 0])
  have hrx : rb ≠ w1.heap.size := by omega
  have hgx : g ≠ w1.heap.size := by omega
  have hwx : w.heap.size ≤ w1.heap.size := Below.size H1.out
  go_wp2_with fail
  generalize w1.alloc (.cells #[.int .i64 (-1), .int .i64 0, .int .i64 0, .int .i64 0] 35) = w2 at *
  generalize hxb : w1.heap.size = xb at *
  clear H1 R1 D1 hxb hV R0 N0
  go_loopw [6] (fun i wr => ∃ k : Nat, k ≤ 17 ∧ i = .int .i64 k ∧ Bx wr xb 35 [.int .i64 (fnd k (B a)), .int .i64 0, .int .i64 0, .int .i64 0] ∧ Bx wr rb 35 [.int .i64 0, .int .i64 0, .int .i64 0, .int .i64 0] ∧ Wd wr g (a :: r) ∧ Nx w wr) (fun i _ => 17 - (intOf i).toNat)
  case atStart => exact ⟨0, by omega, rfl, X2.out, R2.out, D2.out, H2.out⟩
  case round =>
    clear H2 R2 D2 X2
    obtain ⟨k, hk, rfl, hx, hr, hd, hnx⟩ := hrel
    have X2 := Lib.hid hx
    have R2 := Lib.hid hr
    have D2 := Lib.hid hd
    have H2 := Lib.hid hnx
    clear hx hr hd hnx
    by_cases hlt : k ≤ 16
    · have HN := Lib.hid (nmv_k (k := k) (by omega))
      have HY := Lib.hid (fun h => fnd_yes (k := k) (l := B a) h)
      have HO := Lib.hid (fun h => fnd_no (k := k) (l := B a) h)
      have c0 := D2.out 0 a rfl
      have hpl : 0 < r.length + 1 := by omega
      have hkb : (k : Int) < 17 := by omega
      generalize nms.getD k ⟨#[]⟩ = M at *
      go_wp2_with fail
      obtain ⟨bq, hbq⟩ : ∃ bq, (M.toList == a.toList) = bq := ⟨_, rfl⟩
      go_cut [27] (fun a' wx => a' = .bool bq ∧ Nx wr wx)
      case first =>
        go_region_with (first | (go_at_call 12; refine (refNames_any _).mono ?_; rintro e w4 ⟨gn, rfl, hb, _, h4⟩; have gc := hb.cell k HN.out; have H4 := Lib.hid (show Nx wr w4 from (by repeat (first | exact Nx.refl _ | assumption | refine Nx.drew ?_ | refine Nx.drewN ?_ _ | refine Nx.alloc ?_ _ | refine Nx.trans ?_ (by assumption)))); have c5 := (D2.out.nx H4.out) 0 a rfl; clear hb))
        all_goals go_wp2_with fail
        all_goals go_meet
        all_goals first | exact ⟨rfl, H4.out⟩ | exact ⟨by rw [hbq], H4.out⟩
      case rest =>
        obtain ⟨rfl, hnx⟩ := hcut
        have X3 := Lib.hid (X2.out.nx hnx)
        have R3 := Lib.hid (R2.out.nx hnx)
        have D3 := Lib.hid (D2.out.nx hnx)
        have H3 := Lib.hid (H2.out.trans hnx)
        clear hnx c0 X2 R2 D2 H2
        cases bq
        rotate_left
        · have hy := HY.out (by rw [eqL] at hbq; exact of_decide_eq_true hbq)
          have c0 := X3.out.cell 0 rfl
          have f0 := X3.out.frozen 0
          have XN := Lib.hid (X3.out.put 0 (.int .i64 (k : Int)))
          clear hbq HY HO
          go_wp2
          go_roundw
          case rel => exact ⟨k + 1, by omega, by go_num, by rw [hy]; exact XN.out, R3.out.far hrx _, D3.out.far hgx _, H3.out.set hwx _⟩
          case measure => simp [intOf]; omega
        · have hn := HO.out (by rw [eqL] at hbq; exact of_decide_eq_false hbq)
          clear hbq HY HO
          go_wp2
          go_roundw
          case rel => exact ⟨k + 1, by omega, by go_num, by rw [hn]; exact X3.out, R3.out, D3.out, H3.out⟩
          case measure => simp [intOf]; omega
    obtain rfl : k = 17 := by omega
    have HK := Lib.hid (show fnd 17 (B a) = ixm (B a) from rfl)
    rw [HK.out] at X2
    have c0 := X2.out.cell 0 rfl
    have FM := Lib.hid (refForm_any (ixm (B a)))
    go_wp2_with fail
    refine (FM.out _).mono ?_
    rintro e w' ⟨rfl, rfl⟩
    clear c0 FM HK hlt hk
    obtain ⟨o, ho⟩ : ∃ o, ixm (B a) = o := ⟨_, rfl⟩
    have HX := Lib.hid ho
    rw [ho] at X2 HFM ⊢
    clear ho
    have HF := HFM
    rw [HFM.out]
    clear HFM
    have c0 := R2.out.cell 0 rfl
    have f0 := R2.out.frozen 0
    have c1 := R2.out.cell 1 rfl
    have f1 := R2.out.frozen 1
    have c2 := R2.out.cell 2 rfl
    have f2 := R2.out.frozen 2
    have c3 := R2.out.cell 3 rfl
    have f3 := R2.out.frozen 3
    have e : R = none := by rw [← HR.out]; exact BAD.out (Or.inl (ixm_frm (by rw [HX.out, HF.out])))
    subst e
    go_wp2
    have P := (Put.of (Nx.refl (wr)) R2.out).four (.int .i64 0) (.int .i64 0) (.int .i64 0) (.int .i64 0)
    have z0 := P.1.cell 0 rfl
    have z1 := P.1.cell 1 rfl
    have z2 := P.1.cell 2 rfl
    have z3 := P.1.cell 3 rfl
    refine bodyPost_ret (by simp [results, Tryd.results18, go_sem, z0, z1, z2, z3]; rfl) rfl ?_
    exact ⟨ret_rs rfl, P.2.2 w H2.out (by omega)⟩
end Go.Proofs.YtfnmjbapjngmaaaDoor
