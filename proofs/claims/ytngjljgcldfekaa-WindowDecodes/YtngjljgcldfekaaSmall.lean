/-
  The small functions of the codec: what fold, unfold, NewWriter and bits.Len64 do.
-/
import Derived.Test.YtngjljgcldfekaaRows
import Derived.Test.YtngjljgcldfekaaMem
import Derived.Test.YtngjljgcldfekaaNum
import Derived.WalkLawsBesides
import Derived.WalkSpells
import Derived.Lib.Zigzag
import Derived.Lib.BitFns
namespace Go.Proofs.Ytngjljgcldfekaa
open Go.RowKit
theorem ret_int {k : IntKind} {a b : Int} (h : a = b) : Ending.returned (.int k a) = .returned (.int k b) := by rw [h]
set_option maxHeartbeats 400000 in
theorem new_w (w : World) : Calls Try.prog 32 #[] w fun e w' => e = .returned (.pointer (some ⟨w.heap.size, 0, none⟩)) ∧ w' = w.alloc (.cells #[.slice none 0 0] 79) := by
  go_enter Try.func32, Try.ntmps32
  go_wp2
  go_ret
  exact ⟨rfl, rfl⟩
theorem zigzag_eq (z : Int) : Lib.zigzag z = fold z := by unfold Lib.zigzag fold; split <;> split <;> omega
theorem len8_range (b : Int) (h0 : 1 ≤ b) (h1 : b ≤ 255) : 1 ≤ Lib.len8 b ∧ Lib.len8 b ≤ 8 := by
  have all : ∀ n : Fin 256, 1 ≤ n.val → 1 ≤ Lib.len8 (n.val : Int) ∧ Lib.len8 (n.val : Int) ≤ 8 := by decide +kernel
  have := all ⟨b.toNat, by omega⟩ (by simp; omega)
  have e : ((b.toNat : Nat) : Int) = b := by omega
  simp only [e] at this
  exact this
end Go.Proofs.Ytngjljgcldfekaa
