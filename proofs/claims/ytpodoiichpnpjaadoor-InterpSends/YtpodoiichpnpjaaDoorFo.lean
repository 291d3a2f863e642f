/-
  isKey, choices, fits, Formed.
-/
import Derived.Test.YtpodoiichpnpjaaDoorPm
namespace Go.Proofs.YtpodoiichpnpjaaDoor
open Go.RowKit
set_option maxRecDepth 100000
set_option linter.unusedVariables false
section
variable {w : World}
set_option maxHeartbeats 1000000 in
theorem isKey30 (s : List UInt8) (hs : s.length ≤ 9223372036854775807) : Calls Tryd.prog 26 #[.string ⟨s.toArray⟩] w fun e w' => e = .returned (.bool (isKey s)) ∧ w = w' := by
  have hz : (⟨s.toArray⟩ : ByteArray).size = s.length := by simp [ByteArray.size]
  unfold isKey
  by_cases h1 : 1 ≤ s.length
  · have h1' : (1 : Int) ≤ (s.length : Int) := by omega
    by_cases h2 : s.length ≤ 40
    · have h2' : (s.length : Int) ≤ 40 := by omega
      have e : (decide (1 ≤ s.length) && decide (s.length ≤ 40)) = true := by simp [h1, h2]
      rw [e]
      go_enter Tryd.func26, Tryd.ntmps26
      go_wp2_with fail
      go_ret
      exact ⟨rfl, rfl⟩
    · have h2' : ¬ (s.length : Int) ≤ 40 := by omega
      have e : (decide (1 ≤ s.length) && decide (s.length ≤ 40)) = false := by simp [h2]
      rw [e]
      go_enter Tryd.func26, Tryd.ntmps26
      go_wp2_with fail
      go_ret
      exact ⟨rfl, rfl⟩
  · have h1' : ¬ (1 : Int) ≤ (s.length : Int) := by omega
    have e : (decide (1 ≤ s.length) && decide (s.length ≤ 40)) = false := by simp [h1]
    rw [e]
    go_enter Tryd.func26, Tryd.ntmps26
    go_wp2_with fail
    go_ret
    exact ⟨rfl, rfl⟩
set_option maxHeartbeats 1000000 in
theorem choices61 {a b : Option Addr} {nn nc c d : Nat} (k : Nat) (hk : k ≤ 5) (hn : nn ≤ 1000) (hc : nc ≤ 1000) : Calls Tryd.prog 40 #[.agg #[.slice a nn c, .slice b nc d], .int .i64 (k : Int)] w fun e w' => e = .returned (.int .i64 (choiceN nn nc k)) ∧ Kept [] w w' := by
  unfold choiceN
  match k, hk with
  | 0, _ =>
    go_enter Tryd.func40, Tryd.ntmps40
    go_wp2_with fail
    go_ret
    exact ⟨rfl, (Kept.refl [] w).alloc _⟩
  | 1, _ =>
    go_enter Tryd.func40, Tryd.ntmps40
    go_wp2_with fail
    go_ret
    exact ⟨rfl, (Kept.refl [] w).alloc _⟩
  | 2, _ =>
    go_enter Tryd.func40, Tryd.ntmps40
    go_wp2_with fail
    go_ret
    exact ⟨rfl, (Kept.refl [] w).alloc _⟩
  | 3, _ =>
    go_enter Tryd.func40, Tryd.ntmps40
    go_wp2_with fail
    go_ret
    exact ⟨rfl, (Kept.refl [] w).alloc _⟩
  | 4, _ =>
    have hc' : (nc : Int) ≤ 1000 := by omega
    go_enter Tryd.func40, Tryd.ntmps40
    go_wp2_with fail
    go_ret
    exact ⟨rfl, (Kept.refl [] w).alloc _⟩
  | 5, _ =>
    go_enter Tryd.func40, Tryd.ntmps40
    go_wp2_with fail
    go_ret
    exact ⟨rfl, (Kept.refl [] w).alloc _⟩
end
end Go.Proofs.YtpodoiichpnpjaaDoor
