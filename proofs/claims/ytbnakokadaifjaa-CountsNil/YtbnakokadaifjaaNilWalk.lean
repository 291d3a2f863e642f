/-
  CountsNil: the walk.
-/
import Derived.Test.YtbnakokadaifjaaAsk
namespace Go.Proofs.Ytbnakokadaifjaa
open Go.RowKit
set_option linter.unusedVariables false

theorem together_nil (v : Value) (w : World) : Calls Try.prog 13 #[.pointer none, v] w fun e w' => e = .returned (.tuple #[]) ∧ Kept [] w w' := by
  go_enter Try.func13, Try.ntmps13
  go_wp2
  first | go_end0 | refine bodyPost_ret (results_none rfl _ _ _) rfl ?_
  exact ⟨rfl, (Kept.refl [] w).alloc _⟩

theorem share_nil (i m : Int) (w : World) : Calls Try.prog 14 #[.pointer none, .int .i64 i, .int .i64 m] w fun e w' => e = .returned (.slice none 0 0) ∧ Kept [] w w' := by
  go_enter Try.func14, Try.ntmps14
  go_wp2
  go_ret
  exact ⟨rfl, (Kept.refl [] w).alloc _⟩

set_option maxHeartbeats 1000000 in
theorem nil_walk (i : Int) (n : Nat) (w : World) : Calls Try.prog 5 #[.int .i64 i, .int .u64 (n : Int)] w fun e w' => e = .returned (.bool true) ∧ Kept [] w w' := by
  go_enter Try.func5, Try.ntmps5
  go_wp2_with fail
  refine (awake_any w).mono ?_
  rintro e w1 ⟨rfl, k1⟩
  go_wp2_with fail
  refine (together_nil _ _).mono ?_
  rintro e w2 ⟨rfl, k2⟩
  have k2' := ((k1.alloc _).alloc _).trans k2 (by simp)
  clear k1 k2
  go_wp2_with (first | (go_at_call 8; refine (add_nil _ _ _).mono ?_; rintro e w' ⟨rfl, rfl⟩) | (go_at_call 9; refine (get_nil _ _).mono ?_; rintro e w' ⟨rfl, rfl⟩) | (go_at_call 10; refine (take_nil _ _).mono ?_; rintro e w' ⟨rfl, rfl⟩) | (go_at_call 12; refine (all_nil _).mono ?_; rintro e w' ⟨rfl, rfl⟩))
  refine (share_nil _ _ _).mono ?_
  rintro e w3 ⟨rfl, k3⟩
  have k3' := k2'.trans k3 (by simp)
  go_wp2
  go_ret
  exact ⟨rfl, k3'⟩

end Go.Proofs.Ytbnakokadaifjaa
