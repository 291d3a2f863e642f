/-
  The document's digit.
-/
import Derived.Test.YtibapmjgpnldgaaDoorPm
import Derived.Test.YtibapmjgpnldgaaDoorZz
namespace Go.Proofs.YtibapmjgpnldgaaDoor
open Go.RowKit
set_option maxRecDepth 100000
set_option linter.unusedVariables false
section
variable {w : World}
set_option maxHeartbeats 1000000 in
theorem digit83 (c : UInt8) : Calls Tryd.prog 83 #[.int .u8 (c.toNat : Int)] w fun e w' => e = .returned (.int .i64 (digI c)) ∧ w = w' := by
  have hc := c.toNat_lt
  by_cases h1 : 48 ≤ c.toNat
  · have h1' : (48 : Int) ≤ (c.toNat : Int) := by omega
    by_cases h2 : c.toNat ≤ 57
    · have h2' : (c.toNat : Int) ≤ 57 := by omega
      have e : digI c = (c.toNat : Int) - 48 := by
        unfold digI digC
        rw [if_pos ⟨h1, h2⟩]
        dsimp only
        omega
      rw [e]
      have w1 : IntKind.u8.wrap ((c.toNat : Int) - 48) = (c.toNat : Int) - 48 := by rw [IntKind.wrap_u8]; omega
      clear e
      go_enter Tryd.func83, Tryd.ntmps83
      go_wp2_with fail
      go_ret
      exact ⟨by first | rfl | (congr 2; omega), rfl⟩
    · have h2' : ¬ (c.toNat : Int) ≤ 57 := by omega
      by_cases h3 : 97 ≤ c.toNat
      · have h3' : (97 : Int) ≤ (c.toNat : Int) := by omega
        by_cases h4 : c.toNat ≤ 102
        · have h4' : (c.toNat : Int) ≤ 102 := by omega
          have e : digI c = (c.toNat : Int) - 97 + 10 := by
            unfold digI digC
            rw [if_neg (by omega), if_pos ⟨h3, h4⟩]
            dsimp only
            omega
          rw [e]
          have w1 : IntKind.u8.wrap ((c.toNat : Int) - 97) = (c.toNat : Int) - 97 := by rw [IntKind.wrap_u8]; omega
          have w2 : IntKind.i64.wrap ((c.toNat : Int) - 97 + 10) = (c.toNat : Int) - 97 + 10 := by rw [IntKind.wrap_i64]; omega
          clear e
          go_enter Tryd.func83, Tryd.ntmps83
          go_wp2_with fail
          go_ret
          exact ⟨by first | rfl | (congr 2; omega), rfl⟩
        · have h4' : ¬ (c.toNat : Int) ≤ 102 := by omega
          have e : digI c = -1 := by
            unfold digI digC
            rw [if_neg (by omega), if_neg (by omega)]
          rw [e]
          go_enter Tryd.func83, Tryd.ntmps83
          go_wp2_with fail
          go_ret
          exact ⟨rfl, rfl⟩
      · have h3' : ¬ (97 : Int) ≤ (c.toNat : Int) := by omega
        have e : digI c = -1 := by
          unfold digI digC
          rw [if_neg (by omega), if_neg (by omega)]
        rw [e]
        go_enter Tryd.func83, Tryd.ntmps83
        go_wp2_with fail
        go_ret
        exact ⟨rfl, rfl⟩
  · have h1' : ¬ (48 : Int) ≤ (c.toNat : Int) := by omega
    have h3' : ¬ (97 : Int) ≤ (c.toNat : Int) := by omega
    have e : digI c = -1 := by
      unfold digI digC
      rw [if_neg (by omega), if_neg (by omega)]
    rw [e]
    go_enter Tryd.func83, Tryd.ntmps83
    go_wp2_with fail
    go_ret
    exact ⟨rfl, rfl⟩
end
end Go.Proofs.YtibapmjgpnldgaaDoor
