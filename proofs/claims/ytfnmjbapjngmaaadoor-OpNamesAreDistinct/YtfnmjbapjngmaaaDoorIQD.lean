/- What the reference's Cut of layer 4 returns. Conditions: a text of at most 100000 bytes. -/
import Derived.Test.YtfnmjbapjngmaaaDoorIP2
namespace Go.Proofs.YtfnmjbapjngmaaaDoor
open Go.RowKit

theorem info9 : (Tryd.prog.info? 9).map (fun i => (i.zero, i.size, i.bytes)) = some (some (.string ByteArray.empty), 1, 16) := by kernel_rfl
/-- The words' cells. -/
def Wd (w : World) (g : Nat) (ps : List ByteArray) : Prop := ∀ (i : Nat) (x : ByteArray), ps[i]? = some x → w.cell? ⟨g, i, none⟩ = some (.string x)
theorem Wd.nx {w w' : World} {g : Nat} {ps : List ByteArray} (h : Wd w g ps) (k : Nx w w') : Wd w' g ps := fun i x hx => k.cell (h i x hx)
theorem Wd.far {w : World} {g b i : Nat} {o : Option Nat} {ps : List ByteArray} (h : Wd w g ps) (hne : g ≠ b) (v : Value) : Wd (w.setCell ⟨b, i, o⟩ v) g ps := fun j x hx =>
  (World.cell?_setCell_other _ _ _ _ (fun e => hne (by injection e with e; exact e.symm))).trans (h j x hx)

def ext (s : ByteArray) (f k : Nat) : ByteArray := s.extract f k
theorem B_ext (s : ByteArray) (f k : Nat) : B (ext s f k) = ((B s).take k).drop f := by
  show (s.extract f k).data.toList = _
  rw [Lib.extract_data, List.drop_take]
structure CutInv (s : ByteArray) (k f : Nat) (ps : List ByteArray) : Prop where
  fk : f ≤ k
  ks : k ≤ s.size
  nk : ps.length ≤ k
  no : (32 : UInt8) ∉ ((B s).take k).drop f
  eq : ps.map B ++ wds ((B s).drop f) = wds (B s)
theorem CutInv.start (s : ByteArray) : CutInv s 0 0 [] := ⟨Nat.le_refl _, Nat.zero_le _, Nat.le_refl _, by simp, by simp⟩
theorem CutInv.go {s : ByteArray} {k f : Nat} {ps : List ByteArray} (h : CutInv s k f ps) (hk : k < s.size) (hc : s[k] ≠ 32) : CutInv s (k + 1) f ps where
  fk := Nat.le_succ_of_le h.fk
  ks := hk
  nk := Nat.le_succ_of_le h.nk
  no := by
    have hk' : k < (B s).length := by rw [size_B]; exact hk
    rw [List.take_add_one, List.getElem?_eq_getElem hk', getB s k hk]
    have hfk := h.fk
    rw [List.drop_append_of_le_length (by rw [List.length_take]; omega)]
    intro hm
    rcases List.mem_append.1 hm with hm | hm
    · exact h.no hm
    · simp at hm; exact hc hm.symm
  eq := h.eq
theorem drop_split (l : List UInt8) (k f : Nat) (h : f ≤ k) (hk : k < l.length) : l.drop f = (l.take k).drop f ++ l[k] :: l.drop (k + 1) := by
  rw [← List.drop_eq_getElem_cons hk, ← List.drop_append_of_le_length (by rw [List.length_take]; omega), List.take_append_drop]
theorem CutInv.hit {s : ByteArray} {k f : Nat} {ps : List ByteArray} (h : CutInv s k f ps) (hk : k < s.size) (hc : s[k] = 32) : CutInv s (k + 1) (k + 1) (ps ++ [ext s f k]) where
  fk := Nat.le_refl _
  ks := hk
  nk := by rw [List.length_append]; have := h.nk; simp; omega
  no := by simp
  eq := by
    have hk' : k < (B s).length := by rw [size_B]; exact hk
    have e := h.eq
    rw [drop_split (B s) k f h.fk hk', getB s k hk, hc, wds_app _ _ h.no] at e
    rw [List.map_append, List.map_cons, List.map_nil, B_ext, List.append_assoc]
    exact e
theorem CutInv.done {s : ByteArray} {f : Nat} {ps : List ByteArray} (h : CutInv s s.size f ps) : (ps ++ [ext s f s.size]).map B = wds (B s) := by
  have e := h.eq
  have ht : (B s).take s.size = B s := List.take_of_length_le (by rw [size_B]; exact Nat.le_refl _)
  have hno := h.no
  rw [ht] at hno
  rw [wds_plain _ hno] at e
  rw [List.map_append, List.map_cons, List.map_nil, B_ext, ht]
  exact e

def CutPost (s : ByteArray) (w : World) (e : Ending) (w' : World) : Prop := ∃ g c ps, e = .returned (.slice (some ⟨g, 0, none⟩) ps.length c) ∧ ps.map B = wds (B s) ∧ Wd w' g ps ∧ w.heap.size ≤ g ∧ Nx w w'
theorem cut_end {s : ByteArray} {w w' : World} {v : Value} {n : Nat} {ps : List ByteArray} (hp : ps.map B = wds (B s)) (hl : 0 < ps.length) (hown : w'.ownsRow w.heap.size 9 1 v n (ps.map .string)) (hx : Nx w w') : CutPost s w (.returned v) w' := by
  have hn : n = ps.length := by have := hown.1; simpa using this.symm
  subst hn
  rcases hown.2 with ⟨rfl, e⟩ | ⟨g, cap, cur, rfl, h1, _⟩
  · omega
  · exact ⟨g, cap, ps, rfl, hp, fun i x hi => by
      have := hown.cells (g := g) rfl i (.string x) (by simp [hi])
      have e : (⟨g, 0, none⟩ : Addr).add i = ⟨g, i, none⟩ := by unfold Addr.add; split <;> simp_all
      rwa [e] at this, (World.ownsRow.lt hown g rfl).1, hx⟩

set_option maxHeartbeats 1600000 in
set_option maxRecDepth 100000 in
theorem cut_any (s : ByteArray) (hs : s.size ≤ 100000) (w : World) : Calls Tryd.prog 30 #[.string s, .int .u8 32] w (CutPost s w) := by
  obtain ⟨i0, hi, hz0, hz1, hz2⟩ := info_parts info9
  go_enter Tryd.func30, Tryd.ntmps30
  go_wp2
  go_loopw [5, 6, 7] (fun v fr i wr => ∃ k f : Nat, ∃ ps : List ByteArray, CutInv s k f ps ∧ fr = .int .i64 f ∧ i = .int .i64 k ∧ wr.ownsRow w.heap.size 9 1 v ps.length (ps.map .string) ∧ Nx w wr) (fun _ _ i _ => s.size - (intOf i).toNat)
  case atStart => exact ⟨0, 0, [], CutInv.start s, rfl, rfl, World.ownsRow_nil _ _ _ _, Nx.refl _⟩
  case round =>
    obtain ⟨k, f, ps, hI, rfl, rfl, hown, hnx⟩ := hrel
    have HN := Lib.hid hnx
    have HO := Lib.hid hown
    have HI := Lib.hid hI
    have hks := hI.ks
    have hfk := hI.fk
    have hnk := hI.nk
    clear hI hown hnx
    by_cases hlt : k < s.size
    · by_cases hc : s[k] = 32
      · have e0 : ((s[k].toNat : Int) == 32) = true := by rw [hc]; rfl
        have HI2 := Lib.hid (HI.out.hit hlt hc)
        clear hc
        go_wp2_with (at_builtin; refine wpList_append_own _ rfl (.tmp 19) (.tmp 24) 25 rfl w.heap.size 9 i0 (.string ByteArray.empty) 1 16 Tryd.underlying25 hi hz0 hz1 hz2 rfl (by decide) _ _ _ rfl (World.ownsRow.alloc HO.out _) ⟨_, 0, none⟩ 1 1 [.string (ext s f k)] rfl rfl (new_one _ _ _) (by intro u hu; simp at hu; subst hu; rfl) (by unfold maxLen; omega) (by omega) (by have := HN.out.size; simp; omega) ?_; intro v' w1 hown' hgrow _; have HO1 := Lib.hid hown'; have HG := Lib.hid hgrow; clear hown' hgrow)
        go_roundw
        case rel => exact ⟨k + 1, k + 1, ps ++ [ext s f k], HI2.out, by go_num, by go_num, by rw [List.length_append, List.map_append]; exact HO1.out, grown_nx (HN.out.alloc _) HG.out (World.ownsRow.alloc HO.out _) (Nat.le_refl _)⟩
        case measure => simp [intOf]; omega
      · have e0 : ((s[k].toNat : Int) == 32) = false := by
          rw [beq_eq_false_iff_ne]; intro e
          exact hc (UInt8.toNat.inj (by show s[k].toNat = 32; omega))
        have HI2 := Lib.hid (HI.out.go hlt hc)
        clear hc
        go_wp2
        go_roundw
        case rel => exact ⟨k + 1, f, ps, HI2.out, rfl, by go_num, HO.out, HN.out⟩
        case measure => simp [intOf]; omega
    · obtain rfl : k = s.size := by omega
      have HD := Lib.hid HI.out.done
      go_wp2_with (at_builtin; refine wpList_append_own _ rfl (.tmp 28) (.tmp 32) 25 rfl w.heap.size 9 i0 (.string ByteArray.empty) 1 16 Tryd.underlying25 hi hz0 hz1 hz2 rfl (by decide) _ _ _ rfl (World.ownsRow.alloc HO.out _) ⟨_, 0, none⟩ 1 1 [.string (ext s f s.size)] rfl rfl (new_one _ _ _) (by intro u hu; simp at hu; subst hu; rfl) (by unfold maxLen; omega) (by omega) (by have := HN.out.size; simp; omega) ?_; intro v' w1 hown' hgrow _; have HO1 := Lib.hid hown'; have HG := Lib.hid hgrow; clear hown' hgrow)
      go_ret
      exact cut_end HD.out (by simp) (by rw [List.map_append]; exact HO1.out) (grown_nx (HN.out.alloc _) HG.out (World.ownsRow.alloc HO.out _) (Nat.le_refl _))
end Go.Proofs.YtfnmjbapjngmaaaDoor
