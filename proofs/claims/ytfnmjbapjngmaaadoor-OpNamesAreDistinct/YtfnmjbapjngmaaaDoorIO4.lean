/- What the reference's Names and Format of layer 4 return. Conditions: none. -/
import Derived.Test.YtfnmjbapjngmaaaDoorIO2
import Derived.Test.YtfnmjbapjngmaaaDoorJJ
import Derived.Deep.DeepCutAuto
namespace Go.Proofs.YtfnmjbapjngmaaaDoor
open Go.RowKit

/-- The mnemonics. -/
def nms : List ByteArray := [⟨#[108, 100]⟩, ⟨#[108, 100, 110]⟩, ⟨#[97, 110, 100]⟩, ⟨#[97, 110, 100, 110]⟩, ⟨#[111, 114]⟩, ⟨#[111, 114, 110]⟩, ⟨#[114, 105, 115, 101]⟩, ⟨#[102, 97, 108, 108]⟩, ⟨#[112, 117, 115, 104]⟩, ⟨#[97, 110, 100, 112]⟩, ⟨#[111, 114, 112]⟩, ⟨#[115, 116]⟩, ⟨#[115, 116, 110]⟩, ⟨#[115, 101, 116]⟩, ⟨#[114, 115, 116]⟩, ⟨#[106, 109, 112, 99]⟩, ⟨#[101, 110, 100]⟩]
def mnem (o : Int) : ByteArray := nms.getD o.toNat ⟨#[]⟩
def nmv : List Value := nms.map .string
theorem nmv_at {o : Int} (h : 0 ≤ o ∧ o ≤ 16) : nmv[o.toNat]? = some (.string (mnem o)) := by
  have h1 : o.toNat < nms.length := by show o.toNat < 17; omega
  unfold nmv mnem
  rw [List.getElem?_map, List.getElem?_eq_getElem h1]
  simp [List.getD, h1]
set_option maxHeartbeats 1600000 in
theorem refNames_any (w : World) : Calls Tryd.prog 12 #[] w fun e w' => ∃ g, e = .returned (.slice (some ⟨g, 0, none⟩) 17 17) ∧ Bx w' g 9 nmv ∧ w.heap.size ≤ g ∧ Nx w w' := by
  go_enter Tryd.func12, Tryd.ntmps12
  go_wp2
  go_ret
  exact ⟨w.heap.size, rfl, bx_new w 9 nmv, Nat.le_refl _, Nx.one _ _⟩

/-- The assembly text, or the empty text. -/
def opF (f o k n N : Int) : ByteArray := if 1 ≤ f ∧ f ≤ 3 then (if (fmtS k n).size = 0 then ⟨#[]⟩ else (if f = 2 then mnem o ++ ⟨#[32]⟩ ++ fmtS k n ++ ⟨#[32]⟩ ++ dec N.toNat else mnem o ++ ⟨#[32]⟩ ++ fmtS k n)) else (if f = 4 then mnem o ++ ⟨#[32]⟩ ++ dec N.toNat else mnem o)
def opT (o k n N : Int) : ByteArray := if frm o = -1 ∨ cln (frm o) k n N = false ∨ N < 0 ∨ 65535 < N then ⟨#[]⟩ else opF (frm o) o k n N
end Go.Proofs.YtfnmjbapjngmaaaDoor
