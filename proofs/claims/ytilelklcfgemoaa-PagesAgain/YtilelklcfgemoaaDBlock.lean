/-
  block: a block of one byte's; awake.
-/
import Derived.Test.YtilelklcfgemoaaDRead
import Derived.Test.YtilelklcfgemoaaDWrite
namespace Go.Proofs.Ytilelklcfgemoaa
open Go.RowKit
set_option linter.unusedVariables false
/-- The first j bytes are b. -/
def partB (b : UInt8) (j : Nat) : List UInt8 := List.replicate j b ++ zs (256 - j)
theorem partB_length (b : UInt8) (j : Nat) (h : j ≤ 256) : (partB b j).length = 256 := by unfold partB; rw [List.length_append, List.length_replicate, zs_length]; omega
theorem partB_set (b : UInt8) (j : Nat) (h : j < 256) : (partB b j).set j b = partB b (j + 1) := by
  unfold partB
  rw [show 256 - j = (256 - (j + 1)) + 1 by omega, zs_succ, set_at (List.length_replicate ..), List.replicate_succ', List.append_assoc]
  rfl
def blockL (b : UInt8) : List UInt8 := List.replicate 256 b
theorem blockL_length (b : UInt8) : (blockL b).length = 256 := List.length_replicate ..
theorem partB_all (b : UInt8) : partB b 256 = blockL b := by
  unfold partB
  rw [Nat.sub_self, show zs 0 = [] from rfl, List.append_nil]
  rfl
/-- What block answers. -/
def blockV (b : UInt8) (odd : Bool) : List UInt8 := if odd = true then (blockL b).take 255 else blockL b
theorem blockV_yes (b : UInt8) : blockV b true = (blockL b).take 255 := by unfold blockV; rw [if_pos rfl]
theorem blockV_no (b : UInt8) : blockV b false = blockL b := by unfold blockV; rw [if_neg (by simp)]
theorem str34 (v : Value) (l : List UInt8) (w : World) (h : Reads w v l) : (convert 31 9 v).run Try.prog w = .ok (.string ⟨l.toArray⟩) w := string_of (P := Try.prog) 31 5 Try.underlying31 9 Try.underlying5 Try.underlying9 v l w h
theorem blk_one (i : Nat) (l : List UInt8) : blk [(i, l)] i = l := blk_at [(i, l)] i 0 (i, l) rfl rfl (fun j x hj hx => by have := (List.getElem?_eq_some_iff.1 hx).1; simp at this; omega)
end Go.Proofs.Ytilelklcfgemoaa
