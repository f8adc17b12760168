/- The encoding of programs as bytes, and what decoding answers. No condition. -/
import Derived.Test.YtdiamajkfbejhaaDoorING
namespace Go.Proofs.YtdiamajkfbejhaaDoor
open Go.RowKit

instance : DecidableEq In4 := fun a b =>
  if h : a.op = b.op ∧ a.k = b.k ∧ a.n = b.n ∧ a.t = b.t then
    .isTrue (by cases a; cases b; simp only at h; obtain ⟨rfl, rfl, rfl, rfl⟩ := h; rfl)
  else .isFalse (fun e => h (by subst e; exact ⟨rfl, rfl, rfl, rfl⟩))
/-- The byte of a number. -/
def u8 (n : Int) : UInt8 := UInt8.ofNat (n % 256).toNat
theorem u8_nat (n : Int) : ((u8 n).toNat : Int) = n % 256 := by
  unfold u8
  have h1 := Int.emod_nonneg n (show (256 : Int) ≠ 0 by decide)
  have h2 := Int.emod_lt_of_pos n (show (0 : Int) < 256 by decide)
  rw [UInt8.toNat_ofNat']
  omega
theorem u8_of (b : UInt8) : u8 (b.toNat : Int) = b := by
  have h := b.toNat_lt
  apply UInt8.toNat_inj.1
  have := u8_nat (b.toNat : Int)
  omega
theorem u8_is {b : UInt8} {n : Int} (h : (b.toNat : Int) = n % 256) : b = u8 n := by
  apply UInt8.toNat_inj.1
  have := u8_nat n
  omega
/-- A number's two bytes. -/
def two (n : Int) : List UInt8 := [u8 n, u8 (n / 256)]
def nb (a b : UInt8) : Int := (a.toNat : Int) + 256 * (b.toNat : Int)
theorem nb_two {n : Int} (h : 0 ≤ n ∧ n < 65536) : nb (u8 n) (u8 (n / 256)) = n := by
  unfold nb
  rw [u8_nat, u8_nat]
  omega
theorem nb_in (a b : UInt8) : 0 ≤ nb a b ∧ nb a b < 65536 := by
  have h1 := a.toNat_lt
  have h2 := b.toNat_lt
  unfold nb; omega
theorem two_nb (a b : UInt8) : two (nb a b) = [a, b] := by
  have h1 := a.toNat_lt
  have h2 := b.toNat_lt
  have e1 : a = u8 (nb a b) := u8_is (by unfold nb; omega)
  have e2 : b = u8 (nb a b / 256) := u8_is (by unfold nb; omega)
  unfold two
  rw [← e1, ← e2]
def hA (f : Int) : Bool := decide (f = 1 ∨ f = 2 ∨ f = 3)
def hN (f : Int) : Bool := decide (f = 2 ∨ f = 4)
/-- How many bytes the operands of a form have. -/
def need (f : Int) : Nat := (if hA f then 2 else 0) + (if hN f then 2 else 0)
theorem need_le (f : Int) : need f ≤ 4 := by unfold need; split <;> split <;> omega
def enc1 (x : In4) : List UInt8 := u8 x.op :: ((if hA (frm x.op) then [u8 x.k, u8 x.n] else []) ++ (if hN (frm x.op) then two x.t else []))
theorem enc1_len (x : In4) : (enc1 x).length = 1 + need (frm x.op) := by
  unfold enc1 need two
  cases hA (frm x.op) <;> cases hN (frm x.op) <;> rfl
def body (code : List In4) : List UInt8 := code.flatMap enc1
def mgc : List UInt8 := [66, 66, 49]
def head (i q m e : Int) (n : Nat) : List UInt8 := mgc ++ (two i ++ (two q ++ (two m ++ (two e ++ two (n : Int)))))
theorem head_len (i q m e : Int) (n : Nat) : (head i q m e n).length = 13 := rfl
def enc (i q m e : Int) (code : List In4) : List UInt8 := head i q m e code.length ++ body code
theorem body_snoc (l : List In4) (x : In4) : body (l ++ [x]) = body l ++ enc1 x := by simp [body]
theorem body_app (l r : List In4) : body (l ++ r) = body l ++ body r := by simp [body]
theorem body_le (code : List In4) : (body code).length ≤ 5 * code.length := by
  induction code with
  | nil => simp [body]
  | cons x l ih =>
    have h1 := enc1_len x
    have h2 := need_le (frm x.op)
    have : (body (x :: l)).length = (enc1 x).length + (body l).length := by simp [body]
    rw [this, List.length_cons]
    omega
theorem enc_len (i q m e : Int) (code : List In4) : (enc i q m e code).length = 13 + (body code).length := by
  unfold enc; rw [List.length_append, head_len]

/-- Byte a as a number (0 beyond the end). -/
def gb (bs : List UInt8) (a : Nat) : Int := ((bs.getD a 0).toNat : Int)
theorem gb_at {bs : List UInt8} {a : Nat} {b : UInt8} (h : bs[a]? = some b) : gb bs a = (b.toNat : Int) := by unfold gb; rw [List.getD_eq_getElem?_getD, h]; rfl
theorem gb_in (bs : List UInt8) (a : Nat) : 0 ≤ gb bs a ∧ gb bs a < 256 := by
  have := (bs.getD a 0).toNat_lt
  unfold gb; omega
def gn (bs : List UInt8) (a : Nat) : Int := nb (bs.getD a 0) (bs.getD (a + 1) 0)
theorem gn_gb (bs : List UInt8) (a : Nat) : gn bs a = gb bs a + 256 * gb bs (a + 1) := rfl
/-- The instruction that stands at byte a. -/
def insAt (bs : List UInt8) (a : Nat) : In4 :=
  ⟨gb bs a, if hA (frm (gb bs a)) then gb bs (a + 1) else 0, if hA (frm (gb bs a)) then gb bs (a + 2) else 0,
    if hN (frm (gb bs a)) then gn bs (a + 1 + (if hA (frm (gb bs a)) then 2 else 0)) else 0⟩
/-- After j instructions: the next byte, and what was read. -/
def dst (bs : List UInt8) : Nat → Nat × List In4
  | 0 => (13, [])
  | j + 1 => ((dst bs j).1 + 1 + need (frm (gb bs (dst bs j).1)), (dst bs j).2 ++ [insAt bs (dst bs j).1])
theorem dst_len (bs : List UInt8) (j : Nat) : (dst bs j).2.length = j := by
  induction j with
  | zero => rfl
  | succ j ih => simp [dst, ih]
/-- What is wrong with the instruction at byte a. -/
def wrg (bs : List UInt8) (a : Nat) : Int := if bs.length ≤ a then 5 else if 16 < gb bs a then 8 else if bs.length < a + 1 + need (frm (gb bs a)) then 5 else 0
def dfl (bs : List UInt8) (j : Nat) : Int := wrg bs (dst bs j).1
theorem dst_le {bs : List UInt8} : ∀ {j : Nat}, 13 ≤ bs.length → (∀ i, i < j → dfl bs i = 0) → (dst bs j).1 ≤ bs.length := by
  intro j
  induction j with
  | zero => intro h _; exact h
  | succ j ih =>
    intro h hz
    have h0 := hz j (by omega)
    unfold dfl wrg at h0
    simp only [dst]
    split at h0
    · omega
    · split at h0
      · omega
      · split at h0
        · omega
        · omega
theorem dst_ge (bs : List UInt8) (j : Nat) : 13 + j ≤ (dst bs j).1 := by
  induction j with
  | zero => exact Nat.le_refl _
  | succ j ih => simp only [dst]; omega
/-- A decoder's answers. -/
structure DR where
  i : Int
  q : Int
  m : Int
  e : Int
  code : List In4
  at' : Nat
  err : Int
def bad (a : Nat) (x : Int) : DR := ⟨0, 0, 0, 0, [], a, x⟩
def cnt' (bs : List UInt8) : Nat := (gn bs 11).toNat
def hasM (bs : List UInt8) : Bool := decide (bs.take 3 = mgc)
/-- What reading answers, before validity is looked at. -/
def rdA (bs : List UInt8) : DR :=
  if hasM bs = false then bad 0 6
  else if bs.length < 13 then bad bs.length 5
  else if fst (dfl bs) (cnt' bs) < cnt' bs then (if dfl bs (fst (dfl bs) (cnt' bs)) = 8 then bad (dst bs (fst (dfl bs) (cnt' bs))).1 8 else bad bs.length 5)
  else if (dst bs (cnt' bs)).1 < bs.length then bad (dst bs (cnt' bs)).1 7
  else ⟨gn bs 3, gn bs 5, gn bs 7, gn bs 9, (dst bs (cnt' bs)).2, bs.length, 0⟩
/-- What decoding answers. -/
def decA (bs : List UInt8) : DR :=
  if (rdA bs).err ≠ 0 then rdA bs
  else if (ckA (rdA bs).i (rdA bs).q (rdA bs).m (rdA bs).e (rdA bs).code).2.2 ≠ 0 then bad bs.length (ckA (rdA bs).i (rdA bs).q (rdA bs).m (rdA bs).e (rdA bs).code).2.2
  else rdA bs
/-- What encoding answers. -/
def encA (i q m e : Int) (code : List In4) : List UInt8 × Int := if (ckA i q m e code).2.2 = 0 then (enc i q m e code, 0) else ([], (ckA i q m e code).2.2)
end Go.Proofs.YtdiamajkfbejhaaDoor
