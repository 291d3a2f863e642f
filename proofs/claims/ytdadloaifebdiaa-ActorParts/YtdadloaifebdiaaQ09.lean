import Derived.Test.YtdadloaifebdiaaQ04
import Derived.Test.YtdadloaifebdiaaQ08
/-
  Numbers, texts and integers that bytes begin with, as options; without memory.
-/
namespace Go.Proofs.Ytdadloaifebdiaa
set_option maxRecDepth 100000
set_option linter.unusedVariables false
def U64 (n : Nat) : Prop := n < 18446744073709551616
/-- The number that bytes begin with, and what is left. -/
def num (l : List UInt8) : Option (Nat × List UInt8) := if (dec l).2 = 0 then none else some ((dec l).1, l.drop (dec l).2)
theorem num_none {l : List UInt8} (h : num l = none) : rnum l false = (0, [], true) := by
  unfold num at h
  unfold rnum
  split at h
  · rename_i h0; rw [if_pos h0]
  · cases h
theorem num_some {l r : List UInt8} {n : Nat} (h : num l = some (n, r)) : rnum l false = (n, r, false) := by
  unfold num at h
  unfold rnum
  split at h
  · cases h
  · rename_i h0
    rw [if_neg h0]
    simp only [Option.some.injEq, Prod.mk.injEq] at h
    rw [h.1, h.2]
theorem num_lt {l r : List UInt8} {n : Nat} (h : num l = some (n, r)) : U64 n := by
  have := rnum_lt l false
  rw [num_some h] at this
  exact this
theorem num_fwd {l r : List UInt8} {n : Nat} (h : num l = some (n, r)) : l = enc n ++ r := by
  have := (rnum_fwd (l := l) (bad := false) (by rw [num_some h])).2
  rw [num_some h] at this
  exact this
theorem num_back (n : Nat) (h : U64 n) (r : List UInt8) : num (enc n ++ r) = some (n, r) := by
  have h1 := dec_enc n h r
  unfold num
  rw [h1, if_neg (by have := enc_length n; show (enc n).length ≠ 0; omega)]
  simp
theorem rnum_bad2 : rnum [] true = (0, [], true) := rfl
/-- A text's bytes. -/
def encTx (t : List UInt8) : List UInt8 := enc t.length ++ t
/-- The text that bytes begin with. -/
def txt (l : List UInt8) : Option (List UInt8 × List UInt8) := (num l).bind fun x => if x.2.length < x.1 then none else some (x.2.take x.1, x.2.drop x.1)
theorem txt_none {l : List UInt8} (h : txt l = none) : rtext l false = ([], [], true) := by
  unfold txt at h
  unfold rtext
  cases hn : num l with
  | none =>
    rw [num_none hn]
    rfl
  | some x =>
    obtain ⟨n, r⟩ := x
    rw [hn] at h
    dsimp only [Option.bind_some] at h
    rw [num_some hn]
    split at h
    · rename_i h0; rw [if_pos h0]
    · cases h
theorem txt_some {l r t : List UInt8} (h : txt l = some (t, r)) : rtext l false = (t, r, false) := by
  unfold txt at h
  unfold rtext
  cases hn : num l with
  | none => rw [hn] at h; cases h
  | some x =>
    obtain ⟨n, q⟩ := x
    rw [hn] at h
    dsimp only [Option.bind_some] at h
    rw [num_some hn]
    split at h
    · cases h
    · rename_i h0
      simp only [Option.some.injEq, Prod.mk.injEq] at h
      rw [if_neg h0]
      rw [h.1, h.2]
theorem txt_fwd {l r t : List UInt8} (h : txt l = some (t, r)) : l = encTx t ++ r := by
  have := (rtext_fwd (l := l) (bad := false) (by rw [txt_some h])).2
  rw [txt_some h] at this
  unfold encTx
  rw [List.append_assoc]
  exact this
theorem txt_back (t : List UInt8) (h : t.length < 18446744073709551616) (r : List UInt8) : txt (encTx t ++ r) = some (t, r) := by
  unfold txt encTx
  rw [List.append_assoc, num_back t.length h]
  dsimp only [Option.bind_some]
  rw [if_neg (by simp)]
  simp
/-- The integer that bytes begin with. -/
def int (l : List UInt8) : Option (Int × List UInt8) := (num l).map fun x => (unfold x.1, x.2)
theorem int_none {l : List UInt8} (h : int l = none) : num l = none := by
  unfold int at h
  cases hn : num l with
  | none => rfl
  | some x => rw [hn] at h; cases h
theorem int_some {l r : List UInt8} {z : Int} (h : int l = some (z, r)) : rnum l false = (fold z, r, false) ∧ unfold (fold z) = z ∧ I64 z := by
  unfold int at h
  cases hn : num l with
  | none => rw [hn] at h; cases h
  | some x =>
    obtain ⟨n, q⟩ := x
    rw [hn] at h
    simp only [Option.map_some, Option.some.injEq, Prod.mk.injEq] at h
    obtain ⟨rfl, rfl⟩ := h
    rw [fold_unfold]
    exact ⟨num_some hn, rfl, unfold_I64 n (num_lt hn)⟩
theorem int_fwd {l r : List UInt8} {z : Int} (h : int l = some (z, r)) : l = enc (fold z) ++ r := by
  have := (rnum_fwd (l := l) (bad := false) (by rw [(int_some h).1])).2
  rw [(int_some h).1] at this
  exact this
theorem int_back (z : Int) (h : I64 z) (r : List UInt8) : int (enc (fold z) ++ r) = some (z, r) := by
  unfold int
  rw [num_back _ (fold_lt z h.1 h.2)]
  simp [unfold_fold]
end Go.Proofs.Ytdadloaifebdiaa
