/-
  The small functions of the codec: what fold, unfold, NewWriter and bits.Len64 do.
-/
import Derived.Test.YtibapmjgpnldgaaDoorRows
import Derived.Test.YtibapmjgpnldgaaDoorMem
import Derived.Test.YtibapmjgpnldgaaDoorNum
import Derived.WalkLawsBesides
import Derived.WalkSpells
import Derived.Lib.Zigzag
import Derived.Lib.BitFns
namespace Go.Proofs.YtibapmjgpnldgaaDoor
set_option maxRecDepth 100000
open Go.RowKit
theorem ret_int {k : IntKind} {a b : Int} (h : a = b) : Ending.returned (.int k a) = .returned (.int k b) := by rw [h]
set_option maxHeartbeats 400000 in
theorem new_w (w : World) : Calls Tryd.prog 40 #[] w fun e w' => e = .returned (.pointer (some ⟨w.heap.size, 0, none⟩)) ∧ w' = w.alloc (.cells #[.slice none 0 0] 117) := by
  go_enter Tryd.func40, Tryd.ntmps40
  go_wp2
  go_ret
  exact ⟨rfl, rfl⟩
theorem zigzag_eq (z : Int) : Lib.zigzag z = fold z := by unfold Lib.zigzag fold; split <;> split <;> omega
set_option maxHeartbeats 400000 in
theorem fold_any (z : Int) (w : World) (h1 : -9223372036854775808 ≤ z) (h2 : z ≤ 9223372036854775807) : Calls Tryd.prog 69 #[.int .i64 z] w fun e w' => e = .returned (.int .u64 (fold z : Nat)) ∧ w = w' := by
  have hs : IntKind.u64.signed = false := rfl
  by_cases h : z < 0
  · go_enter Tryd.func69, Tryd.ntmps69
    go_wp2
    go_ret
    exact ⟨ret_int (by rw [← zigzag_eq]; exact Lib.zigzag_neg h1 h), rfl⟩
  · go_enter Tryd.func69, Tryd.ntmps69
    go_wp2
    go_ret
    exact ⟨ret_int (by unfold fold; split <;> omega), rfl⟩
set_option maxHeartbeats 400000 in
theorem unfold_any (n : Nat) (w : World) (h2 : n < 18446744073709551616) : Calls Tryd.prog 73 #[.int .u64 (n : Int)] w fun e w' => e = .returned (.int .i64 (unfold n)) ∧ w = w' := by
  have hs : IntKind.i64.signed = true := rfl
  have hn := Lib.i64_not (n / 2) (by omega)
  have HN : Hid (bits .xor .i64 (-1) ((n / 2 : Nat) : Int) = -((n / 2 : Nat) : Int) - 1) := hn
  clear hn
  by_cases h : n % 2 = 1
  · have hb : ((n : Int) % 2 == 1) = true := by simp; omega
    go_enter Tryd.func73, Tryd.ntmps73
    go_wp2
    go_ret
    exact ⟨ret_int (by unfold YtibapmjgpnldgaaDoor.unfold; rw [if_pos h, ← HN.out]; rfl), rfl⟩
  · have hb : ((n : Int) % 2 == 1) = false := by simp; omega
    go_enter Tryd.func73, Tryd.ntmps73
    go_wp2
    go_ret
    exact ⟨ret_int (by unfold YtibapmjgpnldgaaDoor.unfold; rw [if_neg h]; rfl), rfl⟩
theorem len8_range (b : Int) (h0 : 1 ≤ b) (h1 : b ≤ 255) : 1 ≤ Lib.len8 b ∧ Lib.len8 b ≤ 8 := by
  have all : ∀ n : Fin 256, 1 ≤ n.val → 1 ≤ Lib.len8 (n.val : Int) ∧ Lib.len8 (n.val : Int) ≤ 8 := by decide +kernel
  have := all ⟨b.toNat, by omega⟩ (by simp; omega)
  have e : ((b.toNat : Nat) : Int) = b := by omega
  simp only [e] at this
  exact this
end Go.Proofs.YtibapmjgpnldgaaDoor
