/-
  The small functions of the codec: what fold, unfold, NewWriter and bits.Len64 do.
-/
import Derived.Test.YtilelklcfgemoaaRows
import Derived.Test.YtilelklcfgemoaaCMem
import Derived.Test.YtilelklcfgemoaaCNum
import Derived.WalkLawsBesides
import Derived.WalkSpells
import Derived.Lib.Zigzag
import Derived.Lib.BitFns
namespace Go.Proofs.Ytilelklcfgemoaa
open Go.RowKit
theorem ret_int {k : IntKind} {a b : Int} (h : a = b) : Ending.returned (.int k a) = .returned (.int k b) := by rw [h]
theorem zigzag_eq (z : Int) : Lib.zigzag z = fold z := by unfold Lib.zigzag fold; split <;> split <;> omega
theorem len8_range (b : Int) (h0 : 1 ≤ b) (h1 : b ≤ 255) : 1 ≤ Lib.len8 b ∧ Lib.len8 b ≤ 8 := by
  have all : ∀ n : Fin 256, 1 ≤ n.val → 1 ≤ Lib.len8 (n.val : Int) ∧ Lib.len8 (n.val : Int) ≤ 8 := by decide +kernel
  have := all ⟨b.toNat, by omega⟩ (by simp; omega)
  have e : ((b.toNat : Nat) : Int) = b := by omega
  simp only [e] at this
  exact this
end Go.Proofs.Ytilelklcfgemoaa
