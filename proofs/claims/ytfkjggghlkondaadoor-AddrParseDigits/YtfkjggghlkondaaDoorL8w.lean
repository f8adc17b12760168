/- The walk of AddrParseDigits. Conditions: the tables are laid. -/
import Derived.Test.YtfkjggghlkondaaDoorPlain2
import Derived.Deep.DeepCutAuto
import Derived.Deep.RegionWith
namespace Go.Proofs.YtfkjggghlkondaaDoor
open Go.RowKit

theorem cell_new (W : World) (cs : Array Value) (T : TypeId) (b i : Nat) (v : Value) (hb : b = W.heap.size) (hv : cs[i]? = some v) : (W.alloc (.cells cs T)).cell? ⟨b, i, none⟩ = some v := by
  subst hb; rw [World.cell?_alloc_new]; exact hv
theorem fmtS_yes (k n : Nat) (hk : k < 3) (hn : n ≤ 255) : fmtS k n = lt k ++ dec n := by
  unfold fmtS; rw [if_pos (by omega)]; simp
theorem dec_ne (n : Nat) : Lib.decDigits n ≠ [] := by
  intro h; have := Lib.decDigits_length n; rw [h] at this; simp at this
  unfold Lib.nDigits at this; split at this <;> omega
/-- A byte behind a form. -/
theorem parL_app (k n : Nat) (c : UInt8) (hk : k < 3) (hn : n ≤ 255) :
    (parL (lc k :: (Lib.decDigits n ++ [c]))).2.2 ≠ 0 ∨ (parL (lc k :: (Lib.decDigits n ++ [c])) = ((k : Int), 10 * (n : Int) + (c.toNat : Int) - 48, 0) ∧ 48 ≤ c.toNat ∧ c.toNat ≤ 57 ∧ 1 ≤ n) := by
  by_cases h : (parL (lc k :: (Lib.decDigits n ++ [c]))).2.2 = 0
  · right
    simp only [parL, spO_lc k hk, if_true] at h ⊢
    by_cases hp : (pnum (Lib.decDigits n ++ [c])).2 = 0
    · rw [if_pos hp]
      obtain ⟨h1, h2, h3⟩ := pnum_inv _ hp
      obtain ⟨h4, h5, h6⟩ := isDec_snoc (dec_ne n) h1
      have h7 := (dgt_iff c).1 h5
      rw [val_snoc, val_dec n hn] at h3
      refine ⟨?_, by omega, by omega, ?_⟩
      · rw [h3]; congr 2; omega
      · rcases Nat.eq_zero_or_pos n with rfl | hpos
        · exact absurd (by rw [Lib.decDigits_one (by omega)]; rfl) h6
        · exact hpos
    · rw [if_neg hp] at h; exact absurd h hp
  · exact Or.inl h
theorem parL_pre (c : UInt8) (n : Nat) (hn : n ≤ 255) : parL (c :: Lib.decDigits n) = if (spO c).2 then ((spO c).1, (n : Int), 0) else (0, 0, 6) := by
  simp [parL, pnum_dec n hn]
theorem spO_ok (c : UInt8) : (spO c).2 = (decide (c.toNat = 73) || decide (c.toNat = 81) || decide (c.toNat = 77)) := by
  have e : ∀ d : UInt8, c = d ↔ c.toNat = d.toNat := fun d => ⟨fun h => by rw [h], fun h => UInt8.toNat.inj h⟩
  have e0 : c = 73 ↔ c.toNat = 73 := e 73
  have e1 : c = 81 ↔ c.toNat = 81 := e 81
  have e2 : c = 77 ↔ c.toNat = 77 := e 77
  unfold spO
  by_cases h0 : c = 73
  · rw [if_pos h0, decide_eq_true (e0.1 h0)]; simp
  · rw [if_neg h0, decide_eq_false (fun h => h0 (e0.2 h))]
    by_cases h1 : c = 81
    · rw [if_pos h1, decide_eq_true (e1.1 h1)]; simp
    · rw [if_neg h1, decide_eq_false (fun h => h1 (e1.2 h))]
      by_cases h2 : c = 77
      · rw [if_pos h2, decide_eq_true (e2.1 h2)]; simp
      · rw [if_neg h2, decide_eq_false (fun h => h2 (e2.2 h))]; simp
theorem convA (w : World) (a : Addr) (x : Int) (h0 : 0 ≤ x) (h1 : x < 256) (h : w.cell? a = some (.int .u8 x)) :
    (convert 44 9 (.slice (some a) 1 1)).run Tryd.prog w = .ok (.string (one x)) w := by
  refine run_convert_bytes_back w 44 9 5 a 1 [UInt8.ofNat x.toNat] Tryd.underlying44 Tryd.underlying5 Tryd.underlying9 ?_
  intro j hj
  simp at hj
  subst hj
  have : (UInt8.ofNat x.toNat).toNat = x.toNat := by simp; omega
  simp only [Addr.add, Nat.add_zero, List.getElem_cons_zero, this]
  rw [show ((x.toNat : Nat) : Int) = x by omega]; exact h

theorem nxcell {W w1 : World} (hb : Nx W w1) : (∀ b o, b < W.heap.size → w1.cell? ⟨b, o, none⟩ = W.cell? ⟨b, o, none⟩) ∧ (∀ b o, b < W.heap.size → w1.frozen? ⟨b, o, none⟩ = W.frozen? ⟨b, o, none⟩) :=
  ⟨fun b o h => Below.cell hb (p := ⟨b, o, none⟩) h, fun b o h => Below.frozen hb (p := ⟨b, o, none⟩) h⟩

set_option maxHeartbeats 1600000 in
set_option maxRecDepth 100000 in
theorem law8 (x c : Int) (hx0 : 0 ≤ x) (hx1 : x ≤ 65535) (hc0 : 0 ≤ c) (hc1 : c ≤ 255) (w : World) (he : Env w) :
    Calls Tryd.prog 8 #[.int .u16 x, .int .u8 c] w fun r w' => r = .returned (.bool true) ∧ Nx w w' := by
  have HE := Lib.hid he
  clear he
  have HB := Lib.hid (show 0 ≤ x / 256 % 3 ∧ x / 256 % 3 < 3 ∧ 0 ≤ x % 256 ∧ x % 256 ≤ 255 by omega)
  go_enter Tryd.func8, Tryd.ntmps8
  go_wp2_with fail
  generalize x / 256 % 3 = k at *
  generalize x % 256 = n at *
  obtain ⟨b1, b2, b3, b4⟩ := HB.out
  obtain ⟨k, rfl⟩ := Int.eq_ofNat_of_zero_le b1
  obtain ⟨n, rfl⟩ := Int.eq_ofNat_of_zero_le b3
  have hk : k < 3 := by omega
  have hn : n ≤ 255 := by omega
  have hf := fmtS_yes k n hk hn
  have hBf := B_fmt k n
  have hsz := size_append (lt k) (dec n)
  have hds := dec_size n hn
  have hd1 : 1 ≤ (dec n).size := by
    have := size_B (dec n); have h2 : B (dec n) = Lib.decDigits n := rfl
    rw [h2] at this; have := List.length_pos_iff.2 (dec_ne n); omega
  rw [lt_size] at hsz
  have hds' : (dec n).size ≤ 3 := hds
  have N0 := Lib.hid (Nx.one w (.cells #[.int .i64 k, .int .i64 n] 23))
  have FT := Lib.hid (fun (w : World) (he : Env w) => hf ▸ format_any (k : Int) (n : Int) w he)
  generalize lt k ++ dec n = f at *
  have hfs : f.size ≤ 4 := by omega
  have hf2 : (2 : Int) ≤ (f.size : Int) := by omega
  have hf1 : (1 : Int) ≤ (f.size : Int) := by omega
  have hcat1 : f.size + (one c).size ≤ 10 := by rw [one_size]; omega
  have P1 := Lib.hid (fun (w : World) (he : Env w) => parse_any (f ++ one c) (by rw [size_append, one_size]; unfold maxLen; omega) w he)
  have P2 := Lib.hid (fun (w : World) (he : Env w) => parse_any (one c ++ f.extract 1 f.size) (by rw [size_append, one_size]; have := size_tail f; unfold maxLen; omega) w he)
  have hB1 : B (f ++ one c) = lc k :: (Lib.decDigits n ++ [UInt8.ofNat c.toNat]) := by rw [B_append, hBf, one_B]; rfl
  have hB2 : B (one c ++ f.extract 1 f.size) = UInt8.ofNat c.toNat :: Lib.decDigits n := by rw [B_append, one_B, B_tail, hBf]; rfl
  have hcn : (UInt8.ofNat c.toNat).toNat = c.toNat := by simp; omega
  rw [hB1] at P1
  rw [hB2, parL_pre _ n hn] at P2
  have hA := parL_app k n (UInt8.ofNat c.toNat) hk hn
  have hok := spO_ok (UInt8.ofNat c.toNat)
  rw [hcn] at hA hok
  generalize parL (lc k :: (Lib.decDigits n ++ [UInt8.ofNat c.toNat])) = p1 at *
  generalize spO (UInt8.ofNat c.toNat) = sp at *
  have hq : (if sp.2 then (sp.1, (n : Int), (0 : Int)) else (0, 0, 6)).2.2 = if (decide (c.toNat = 73) || decide (c.toNat = 81) || decide (c.toNat = 77)) then 0 else 6 := by rw [← hok]; cases sp.2 <;> rfl
  generalize (if sp.2 then (sp.1, (n : Int), (0 : Int)) else (0, 0, 6)) = q at *
  have HC := Lib.hid (show (c = 73 ∧ q.2.2 = 0) ∨ (c = 81 ∧ q.2.2 = 0) ∨ (c = 77 ∧ q.2.2 = 0) ∨ ((c == 73) = false ∧ (c == 81) = false ∧ (c == 77) = false ∧ q.2.2 = 6) by
    rw [hq]
    by_cases e0 : c = 73
    · left; subst e0; exact ⟨rfl, rfl⟩
    · by_cases e1 : c = 81
      · right; left; subst e1; exact ⟨rfl, rfl⟩
      · by_cases e2 : c = 77
        · right; right; left; subst e2; exact ⟨rfl, rfl⟩
        · right; right; right
          refine ⟨by simpa using e0, by simpa using e1, by simpa using e2, ?_⟩
          rw [decide_eq_false (by omega), decide_eq_false (by omega), decide_eq_false (by omega)]; rfl)
  have HA := Lib.hid hA
  clear hf hBf hsz hds hd1 hds' hB1 hB2 hcn hA hok hq
  refine (FT.out _ (HE.out.nx N0.out)).mono ?_
  rintro r w2 ⟨rfl, h2⟩
  have g1 := h2.cell (cell_new w #[.int .i64 k, .int .i64 n] 23 _ 0 _ rfl rfl)
  have g2 := h2.cell (cell_new w #[.int .i64 k, .int .i64 n] 23 _ 1 _ rfl rfl)
  have N2 := Lib.hid (N0.out.trans h2)
  clear h2
  have hcv := conv1 w2 c hc0 (by omega)
  go_wp2_with fail
  refine (P1.out _ (HE.out.nx (N2.out.alloc _))).mono ?_
  rintro r w3 ⟨rfl, h3⟩
  have N3 := Lib.hid ((N2.out.alloc _).trans h3)
  have g1' := fun o => ((Nx.one _ _).trans (h3.trans (Nx.one _ o))).cell g1
  have g2' := fun o => ((Nx.one _ _).trans (h3.trans (Nx.one _ o))).cell g2
  clear h3 hcv
  have hs : p1.2.2 ≠ 0 ∨ (p1 = ((k : Int), 10 * (n : Int) + c - 48, 0) ∧ 48 ≤ c ∧ c ≤ 57 ∧ 1 ≤ n) := by
    rcases HA.out with h | ⟨h, h'⟩
    · exact Or.inl h
    · right; rw [h]; refine ⟨?_, by omega, by omega, by omega⟩; congr 2; omega
  rcases hs with hs | ⟨rfl, hs1, hs2, hs3⟩
  · have hne : (p1.2.2 == 0) = false := by simpa using hs
    clear hs
    go_wp2_with fail
    have hW4 := Nx.one w3 (.cells #[.int .i64 p1.1, .int .i64 p1.2.1] 23)
    have N4 := Lib.hid (N3.out.trans hW4)
    have g4 := g1' (.cells #[.int .i64 p1.1, .int .i64 p1.2.1] 23)
    generalize w3.alloc (.cells #[.int .i64 p1.1, .int .i64 p1.2.1] 23) = W4 at *
    clear hW4 g1' g2'
    go_cut [10] (fun a wx => a = .int .i64 q.2.2 ∧ Nx W4 wx)
    case first =>
      have HK := Lib.hid (fun (w' : World) (h : Nx W4 w') => h.cell g4)
      have hcat2 : ∀ w : World, (Op.stringOp .add (one c) (f.extract 1 f.size)).run Tryd.prog w = .ok (.string (one c ++ f.extract 1 f.size)) w := fun w => run_string_add_sum w _ _ (by rw [one_size]; have := size_tail f; omega)
      have hcv : ∀ (w' : World) (b : Nat), w'.cell? ⟨b, 0, none⟩ = some (.int .u8 c) → (convert 44 9 (.slice (some ⟨b, 0, none⟩) 1 1)).run Tryd.prog w' = .ok (.string (one c)) w' := fun w' b h => convA w' _ c hc0 (by omega) h
      go_region_with ((go_at_call 10; refine (P2.out _ ?_).mono ?_; (focus (refine HE.out.nx (N4.out.trans ?_); repeat (first | exact Nx.refl _ | assumption | refine Nx.drew ?_ | refine Nx.drewN ?_ _ | refine Nx.alloc ?_ _ | refine Nx.setCell ?_ (by first | exact Nat.le_refl _ | (simp; omega) | simp) _ | refine Nx.trans ?_ (by assumption)))); rintro e w5 ⟨rfl, h5⟩; obtain ⟨hc5, hf5⟩ := nxcell h5))
      all_goals go_wp2_with fail
      all_goals go_meet
      all_goals exact ⟨rfl, by repeat (first | exact Nx.refl _ | assumption | refine Nx.drew ?_ | refine Nx.drewN ?_ _ | refine Nx.alloc ?_ _ | refine Nx.setCell ?_ (by first | exact Nat.le_refl _ | (simp; omega) | simp) _ | refine Nx.trans ?_ (by assumption))⟩
    case rest =>
      obtain ⟨ha, hnx⟩ := hcut
      have N5 := Lib.hid (N4.out.trans hnx)
      clear hnx
      rcases HC.out with ⟨rfl, hv⟩ | ⟨rfl, hv⟩ | ⟨rfl, hv⟩ | ⟨z1, z2, z3, hv⟩
      all_goals
        rw [hv] at ha
        subst ha
        clear hv
        go_wp2_with fail
        refine (alive_any _ (HE.out.nx N5.out)).mono ?_
        rintro r w6 ⟨rfl, h6⟩
        have N6 := Lib.hid (N5.out.trans h6)
        clear h6
        go_wp2
        go_ret
        exact ⟨rfl, N6.out⟩
  · have hlt : (n : Int) < 10 * (n : Int) + c - 48 := by omega
    go_wp2_with fail
    have hW4 := Nx.one w3 (.cells #[.int .i64 k, .int .i64 (10 * (n : Int) + c - 48)] 23)
    have N4 := Lib.hid (N3.out.trans hW4)
    have g4 := g1' (.cells #[.int .i64 k, .int .i64 (10 * (n : Int) + c - 48)] 23)
    generalize w3.alloc (.cells #[.int .i64 k, .int .i64 (10 * (n : Int) + c - 48)] 23) = W4 at *
    clear hW4 g1' g2'
    go_cut [10] (fun a wx => a = .int .i64 q.2.2 ∧ Nx W4 wx)
    case first =>
      have HK := Lib.hid (fun (w' : World) (h : Nx W4 w') => h.cell g4)
      have hcat2 : ∀ w : World, (Op.stringOp .add (one c) (f.extract 1 f.size)).run Tryd.prog w = .ok (.string (one c ++ f.extract 1 f.size)) w := fun w => run_string_add_sum w _ _ (by rw [one_size]; have := size_tail f; omega)
      have hcv : ∀ (w' : World) (b : Nat), w'.cell? ⟨b, 0, none⟩ = some (.int .u8 c) → (convert 44 9 (.slice (some ⟨b, 0, none⟩) 1 1)).run Tryd.prog w' = .ok (.string (one c)) w' := fun w' b h => convA w' _ c hc0 (by omega) h
      go_region_with ((go_at_call 10; refine (P2.out _ ?_).mono ?_; (focus (refine HE.out.nx (N4.out.trans ?_); repeat (first | exact Nx.refl _ | assumption | refine Nx.drew ?_ | refine Nx.drewN ?_ _ | refine Nx.alloc ?_ _ | refine Nx.setCell ?_ (by first | exact Nat.le_refl _ | (simp; omega) | simp) _ | refine Nx.trans ?_ (by assumption)))); rintro e w5 ⟨rfl, h5⟩; obtain ⟨hc5, hf5⟩ := nxcell h5))
      all_goals go_wp2_with fail
      all_goals go_meet
      all_goals exact ⟨rfl, by repeat (first | exact Nx.refl _ | assumption | refine Nx.drew ?_ | refine Nx.drewN ?_ _ | refine Nx.alloc ?_ _ | refine Nx.setCell ?_ (by first | exact Nat.le_refl _ | (simp; omega) | simp) _ | refine Nx.trans ?_ (by assumption))⟩
    case rest =>
      obtain ⟨ha, hnx⟩ := hcut
      have N5 := Lib.hid (N4.out.trans hnx)
      clear hnx
      rcases HC.out with ⟨rfl, hv⟩ | ⟨rfl, hv⟩ | ⟨rfl, hv⟩ | ⟨z1, z2, z3, hv⟩
      all_goals
        rw [hv] at ha
        subst ha
        clear hv
        go_wp2_with fail
        refine (alive_any _ (HE.out.nx N5.out)).mono ?_
        rintro r w6 ⟨rfl, h6⟩
        have N6 := Lib.hid (N5.out.trans h6)
        clear h6
        go_wp2
        go_ret
        exact ⟨rfl, N6.out⟩
end Go.Proofs.YtfkjggghlkondaaDoor
