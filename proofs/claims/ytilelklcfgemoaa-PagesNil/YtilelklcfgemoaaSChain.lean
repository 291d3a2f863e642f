/-
  What sealed lays, step by step, is the sealed block. Nothing here speaks of the program.
-/
import Derived.Test.YtilelklcfgemoaaSLay
import Derived.Laws.CopyOwn
namespace Go.Proofs.Ytilelklcfgemoaa
open Go.RowKit
set_option linter.unusedVariables false
/-- Noughts. -/
def zs (n : Nat) : List UInt8 := List.replicate n 0
theorem zs_length (n : Nat) : (zs n).length = n := List.length_replicate ..
theorem zs_add (m n : Nat) : zs m ++ zs n = zs (m + n) := List.replicate_append_replicate
theorem zs_succ (n : Nat) : zs (n + 1) = 0 :: zs n := rfl
theorem zs_drop (m n : Nat) : (zs n).drop m = zs (n - m) := List.drop_replicate ..
/-- The row, with kind, place and length laid. -/
def headL (kind : UInt8) (place n : Nat) : List UInt8 := (layL ((zs 256).set 8 kind) 9 4 place).set 13 (UInt8.ofNat n)
def bodyL (kind : UInt8) (place : Nat) (p : List UInt8) : List UInt8 := splice (headL kind place p.length) 14 p
theorem set_at {A B : List UInt8} {x y : UInt8} {n : Nat} (h : A.length = n) : (A ++ x :: B).set n y = A ++ y :: B := by subst h; simp
theorem take_len {A B : List UInt8} {n : Nat} (h : A.length = n) : (A ++ B).take n = A := by rw [List.take_append_of_le_length (by omega), List.take_of_length_le (by omega)]
theorem drop_len {A B : List UInt8} {n : Nat} (h : A.length = n) : (A ++ B).drop n = B := by rw [List.drop_append_of_le_length (by omega), List.drop_of_length_le (by omega)]; rfl
theorem row1 (kind : UInt8) : (zs 256).set 8 kind = (zs 8 ++ [kind]) ++ zs 247 := by
  rw [show zs 256 = zs 8 ++ 0 :: zs 247 by rw [← zs_succ, zs_add], set_at (zs_length 8), List.append_assoc]
  rfl
theorem row1_length (kind : UInt8) : ((zs 256).set 8 kind).length = 256 := by rw [List.length_set, zs_length]
theorem row2 (kind : UInt8) (place : Nat) : layL ((zs 256).set 8 kind) 9 4 place = ((zs 8 ++ [kind]) ++ be 4 place) ++ 0 :: zs 242 := by
  rw [layL_eq 9 4 _ _ (by rw [row1_length]; omega), row1, take_len (by rw [List.length_append, zs_length]; rfl), ← List.drop_drop, drop_len (by rw [List.length_append, zs_length]; rfl), zs_drop, ← List.append_assoc]
  rfl
theorem row2_length (kind : UInt8) (place : Nat) : (layL ((zs 256).set 8 kind) 9 4 place).length = 256 := by
  rw [layL_length 9 4 _ _ (by rw [row1_length]; omega), row1_length]
theorem head_len (kind : UInt8) (place : Nat) : ((zs 8 ++ [kind]) ++ be 4 place).length = 13 := by rw [List.length_append, List.length_append, zs_length, be_length]; rfl
theorem headL_eq (kind : UInt8) (place n : Nat) : headL kind place n = (((zs 8 ++ [kind]) ++ be 4 place) ++ [UInt8.ofNat n]) ++ zs 242 := by
  unfold headL
  rw [row2, set_at (head_len kind place), List.append_assoc _ [_]]
  rfl
theorem headL_length (kind : UInt8) (place n : Nat) : (headL kind place n).length = 256 := by
  unfold headL
  rw [List.length_set, row2_length]
theorem bodyL_eq (kind : UInt8) (place : Nat) (p : List UInt8) : bodyL kind place p = zs 8 ++ rest kind place p := by
  unfold bodyL splice
  have hl : (((zs 8 ++ [kind]) ++ be 4 place) ++ [UInt8.ofNat p.length]).length = 14 := by rw [List.length_append, head_len]; rfl
  rw [headL_eq, take_len hl, ← List.drop_drop, drop_len hl, zs_drop]
  unfold rest
  show _ = zs 8 ++ kind :: (be 4 place ++ UInt8.ofNat p.length :: (p ++ zs (242 - p.length)))
  simp only [List.append_assoc, List.cons_append, List.nil_append]
theorem bodyL_length (kind : UInt8) (place : Nat) (p : List UInt8) (h : p.length ≤ 242) : (bodyL kind place p).length = 256 := by
  rw [bodyL_eq kind place p, List.length_append, zs_length, rest_length kind place p h]
theorem bodyL_drop (kind : UInt8) (place : Nat) (p : List UInt8) : (bodyL kind place p).drop 8 = rest kind place p := by
  rw [bodyL_eq kind place p, drop_len (zs_length 8)]
theorem chain (kind : UInt8) (place : Nat) (p : List UInt8) (h : p.length ≤ 242) : layL (bodyL kind place p) 0 8 (fnv ((bodyL kind place p).drop 8)) = sealedL kind place p := by
  rw [layL_eq 0 8 _ _ (by rw [bodyL_length kind place p h]; omega), List.take_zero, List.nil_append, Nat.zero_add, bodyL_drop kind place p]
  rfl
end Go.Proofs.Ytilelklcfgemoaa
