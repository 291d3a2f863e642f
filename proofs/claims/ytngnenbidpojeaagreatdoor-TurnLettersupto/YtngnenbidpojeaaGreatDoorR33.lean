import Derived.Test.YtngnenbidpojeaaGreatDoorR23
import Derived.Test.YtngnenbidpojeaaGreatDoorR26
/-
  How many an operation takes and pushes: the program's two functions and the document's one.
-/
namespace Go.Proofs.YtngnenbidpojeaaGreatDoor
open Go.RowKit
set_option maxRecDepth 100000
section
variable {w : World}
theorem takes28_0 : Calls Tryz.prog 123 #[.int .i64 0] w fun e w' => e = .returned (.int .i64 ((effI 0).1 : Int)) ∧ w = w' := by
  go_enter Tryz.func123, Tryz.ntmps123
  go_wp2_with fail
  go_ret
  exact ⟨rfl, rfl⟩
theorem takes28_1 : Calls Tryz.prog 123 #[.int .i64 1] w fun e w' => e = .returned (.int .i64 ((effI 1).1 : Int)) ∧ w = w' := by
  go_enter Tryz.func123, Tryz.ntmps123
  go_wp2_with fail
  go_ret
  exact ⟨rfl, rfl⟩
theorem takes28_2 : Calls Tryz.prog 123 #[.int .i64 2] w fun e w' => e = .returned (.int .i64 ((effI 2).1 : Int)) ∧ w = w' := by
  go_enter Tryz.func123, Tryz.ntmps123
  go_wp2_with fail
  go_ret
  exact ⟨rfl, rfl⟩
theorem takes28_3 : Calls Tryz.prog 123 #[.int .i64 3] w fun e w' => e = .returned (.int .i64 ((effI 3).1 : Int)) ∧ w = w' := by
  go_enter Tryz.func123, Tryz.ntmps123
  go_wp2_with fail
  go_ret
  exact ⟨rfl, rfl⟩
theorem takes28_4 : Calls Tryz.prog 123 #[.int .i64 4] w fun e w' => e = .returned (.int .i64 ((effI 4).1 : Int)) ∧ w = w' := by
  go_enter Tryz.func123, Tryz.ntmps123
  go_wp2_with fail
  go_ret
  exact ⟨rfl, rfl⟩
theorem takes28_5 : Calls Tryz.prog 123 #[.int .i64 5] w fun e w' => e = .returned (.int .i64 ((effI 5).1 : Int)) ∧ w = w' := by
  go_enter Tryz.func123, Tryz.ntmps123
  go_wp2_with fail
  go_ret
  exact ⟨rfl, rfl⟩
theorem takes28_6 : Calls Tryz.prog 123 #[.int .i64 6] w fun e w' => e = .returned (.int .i64 ((effI 6).1 : Int)) ∧ w = w' := by
  go_enter Tryz.func123, Tryz.ntmps123
  go_wp2_with fail
  go_ret
  exact ⟨rfl, rfl⟩
theorem takes28_7 : Calls Tryz.prog 123 #[.int .i64 7] w fun e w' => e = .returned (.int .i64 ((effI 7).1 : Int)) ∧ w = w' := by
  go_enter Tryz.func123, Tryz.ntmps123
  go_wp2_with fail
  go_ret
  exact ⟨rfl, rfl⟩
theorem takes28_8 : Calls Tryz.prog 123 #[.int .i64 8] w fun e w' => e = .returned (.int .i64 ((effI 8).1 : Int)) ∧ w = w' := by
  go_enter Tryz.func123, Tryz.ntmps123
  go_wp2_with fail
  go_ret
  exact ⟨rfl, rfl⟩
theorem takes28_9 : Calls Tryz.prog 123 #[.int .i64 9] w fun e w' => e = .returned (.int .i64 ((effI 9).1 : Int)) ∧ w = w' := by
  go_enter Tryz.func123, Tryz.ntmps123
  go_wp2_with fail
  go_ret
  exact ⟨rfl, rfl⟩
theorem takes28_10 : Calls Tryz.prog 123 #[.int .i64 10] w fun e w' => e = .returned (.int .i64 ((effI 10).1 : Int)) ∧ w = w' := by
  go_enter Tryz.func123, Tryz.ntmps123
  go_wp2_with fail
  go_ret
  exact ⟨rfl, rfl⟩
theorem takes28_11 : Calls Tryz.prog 123 #[.int .i64 11] w fun e w' => e = .returned (.int .i64 ((effI 11).1 : Int)) ∧ w = w' := by
  go_enter Tryz.func123, Tryz.ntmps123
  go_wp2_with fail
  go_ret
  exact ⟨rfl, rfl⟩
theorem takes28_12 : Calls Tryz.prog 123 #[.int .i64 12] w fun e w' => e = .returned (.int .i64 ((effI 12).1 : Int)) ∧ w = w' := by
  go_enter Tryz.func123, Tryz.ntmps123
  go_wp2_with fail
  go_ret
  exact ⟨rfl, rfl⟩
theorem takes28_13 : Calls Tryz.prog 123 #[.int .i64 13] w fun e w' => e = .returned (.int .i64 ((effI 13).1 : Int)) ∧ w = w' := by
  go_enter Tryz.func123, Tryz.ntmps123
  go_wp2_with fail
  go_ret
  exact ⟨rfl, rfl⟩
theorem takes28_14 : Calls Tryz.prog 123 #[.int .i64 14] w fun e w' => e = .returned (.int .i64 ((effI 14).1 : Int)) ∧ w = w' := by
  go_enter Tryz.func123, Tryz.ntmps123
  go_wp2_with fail
  go_ret
  exact ⟨rfl, rfl⟩
theorem takes28_15 : Calls Tryz.prog 123 #[.int .i64 15] w fun e w' => e = .returned (.int .i64 ((effI 15).1 : Int)) ∧ w = w' := by
  go_enter Tryz.func123, Tryz.ntmps123
  go_wp2_with fail
  go_ret
  exact ⟨rfl, rfl⟩
theorem takes28_16 : Calls Tryz.prog 123 #[.int .i64 16] w fun e w' => e = .returned (.int .i64 ((effI 16).1 : Int)) ∧ w = w' := by
  go_enter Tryz.func123, Tryz.ntmps123
  go_wp2_with fail
  go_ret
  exact ⟨rfl, rfl⟩
theorem takes28_17 : Calls Tryz.prog 123 #[.int .i64 17] w fun e w' => e = .returned (.int .i64 ((effI 17).1 : Int)) ∧ w = w' := by
  go_enter Tryz.func123, Tryz.ntmps123
  go_wp2_with fail
  go_ret
  exact ⟨rfl, rfl⟩
theorem takes28_18 : Calls Tryz.prog 123 #[.int .i64 18] w fun e w' => e = .returned (.int .i64 ((effI 18).1 : Int)) ∧ w = w' := by
  go_enter Tryz.func123, Tryz.ntmps123
  go_wp2_with fail
  go_ret
  exact ⟨rfl, rfl⟩
theorem takes28_19 : Calls Tryz.prog 123 #[.int .i64 19] w fun e w' => e = .returned (.int .i64 ((effI 19).1 : Int)) ∧ w = w' := by
  go_enter Tryz.func123, Tryz.ntmps123
  go_wp2_with fail
  go_ret
  exact ⟨rfl, rfl⟩
theorem takes28_20 : Calls Tryz.prog 123 #[.int .i64 20] w fun e w' => e = .returned (.int .i64 ((effI 20).1 : Int)) ∧ w = w' := by
  go_enter Tryz.func123, Tryz.ntmps123
  go_wp2_with fail
  go_ret
  exact ⟨rfl, rfl⟩
theorem takes28_21 : Calls Tryz.prog 123 #[.int .i64 21] w fun e w' => e = .returned (.int .i64 ((effI 21).1 : Int)) ∧ w = w' := by
  go_enter Tryz.func123, Tryz.ntmps123
  go_wp2_with fail
  go_ret
  exact ⟨rfl, rfl⟩
theorem takes28_22 : Calls Tryz.prog 123 #[.int .i64 22] w fun e w' => e = .returned (.int .i64 ((effI 22).1 : Int)) ∧ w = w' := by
  go_enter Tryz.func123, Tryz.ntmps123
  go_wp2_with fail
  go_ret
  exact ⟨rfl, rfl⟩
theorem takes28_23 : Calls Tryz.prog 123 #[.int .i64 23] w fun e w' => e = .returned (.int .i64 ((effI 23).1 : Int)) ∧ w = w' := by
  go_enter Tryz.func123, Tryz.ntmps123
  go_wp2_with fail
  go_ret
  exact ⟨rfl, rfl⟩
theorem takes28 {i : Nat} (hi : i < 24) : Calls Tryz.prog 123 #[.int .i64 (i : Int)] w fun e w' => e = .returned (.int .i64 ((effI i).1 : Int)) ∧ w = w' := by
  match i, hi with
  | 0, _ => exact takes28_0
  | 1, _ => exact takes28_1
  | 2, _ => exact takes28_2
  | 3, _ => exact takes28_3
  | 4, _ => exact takes28_4
  | 5, _ => exact takes28_5
  | 6, _ => exact takes28_6
  | 7, _ => exact takes28_7
  | 8, _ => exact takes28_8
  | 9, _ => exact takes28_9
  | 10, _ => exact takes28_10
  | 11, _ => exact takes28_11
  | 12, _ => exact takes28_12
  | 13, _ => exact takes28_13
  | 14, _ => exact takes28_14
  | 15, _ => exact takes28_15
  | 16, _ => exact takes28_16
  | 17, _ => exact takes28_17
  | 18, _ => exact takes28_18
  | 19, _ => exact takes28_19
  | 20, _ => exact takes28_20
  | 21, _ => exact takes28_21
  | 22, _ => exact takes28_22
  | 23, _ => exact takes28_23
  | n + 24, h => exact absurd h (by omega)
theorem pushes29_0 : Calls Tryz.prog 124 #[.int .i64 0] w fun e w' => e = .returned (.int .i64 ((effI 0).2 : Int)) ∧ w = w' := by
  go_enter Tryz.func124, Tryz.ntmps124
  go_wp2_with fail
  go_ret
  exact ⟨rfl, rfl⟩
theorem pushes29_1 : Calls Tryz.prog 124 #[.int .i64 1] w fun e w' => e = .returned (.int .i64 ((effI 1).2 : Int)) ∧ w = w' := by
  go_enter Tryz.func124, Tryz.ntmps124
  go_wp2_with fail
  go_ret
  exact ⟨rfl, rfl⟩
theorem pushes29_2 : Calls Tryz.prog 124 #[.int .i64 2] w fun e w' => e = .returned (.int .i64 ((effI 2).2 : Int)) ∧ w = w' := by
  go_enter Tryz.func124, Tryz.ntmps124
  go_wp2_with fail
  go_ret
  exact ⟨rfl, rfl⟩
theorem pushes29_3 : Calls Tryz.prog 124 #[.int .i64 3] w fun e w' => e = .returned (.int .i64 ((effI 3).2 : Int)) ∧ w = w' := by
  go_enter Tryz.func124, Tryz.ntmps124
  go_wp2_with fail
  go_ret
  exact ⟨rfl, rfl⟩
theorem pushes29_4 : Calls Tryz.prog 124 #[.int .i64 4] w fun e w' => e = .returned (.int .i64 ((effI 4).2 : Int)) ∧ w = w' := by
  go_enter Tryz.func124, Tryz.ntmps124
  go_wp2_with fail
  go_ret
  exact ⟨rfl, rfl⟩
theorem pushes29_5 : Calls Tryz.prog 124 #[.int .i64 5] w fun e w' => e = .returned (.int .i64 ((effI 5).2 : Int)) ∧ w = w' := by
  go_enter Tryz.func124, Tryz.ntmps124
  go_wp2_with fail
  go_ret
  exact ⟨rfl, rfl⟩
theorem pushes29_6 : Calls Tryz.prog 124 #[.int .i64 6] w fun e w' => e = .returned (.int .i64 ((effI 6).2 : Int)) ∧ w = w' := by
  go_enter Tryz.func124, Tryz.ntmps124
  go_wp2_with fail
  go_ret
  exact ⟨rfl, rfl⟩
theorem pushes29_7 : Calls Tryz.prog 124 #[.int .i64 7] w fun e w' => e = .returned (.int .i64 ((effI 7).2 : Int)) ∧ w = w' := by
  go_enter Tryz.func124, Tryz.ntmps124
  go_wp2_with fail
  go_ret
  exact ⟨rfl, rfl⟩
theorem pushes29_8 : Calls Tryz.prog 124 #[.int .i64 8] w fun e w' => e = .returned (.int .i64 ((effI 8).2 : Int)) ∧ w = w' := by
  go_enter Tryz.func124, Tryz.ntmps124
  go_wp2_with fail
  go_ret
  exact ⟨rfl, rfl⟩
theorem pushes29_9 : Calls Tryz.prog 124 #[.int .i64 9] w fun e w' => e = .returned (.int .i64 ((effI 9).2 : Int)) ∧ w = w' := by
  go_enter Tryz.func124, Tryz.ntmps124
  go_wp2_with fail
  go_ret
  exact ⟨rfl, rfl⟩
theorem pushes29_10 : Calls Tryz.prog 124 #[.int .i64 10] w fun e w' => e = .returned (.int .i64 ((effI 10).2 : Int)) ∧ w = w' := by
  go_enter Tryz.func124, Tryz.ntmps124
  go_wp2_with fail
  go_ret
  exact ⟨rfl, rfl⟩
theorem pushes29_11 : Calls Tryz.prog 124 #[.int .i64 11] w fun e w' => e = .returned (.int .i64 ((effI 11).2 : Int)) ∧ w = w' := by
  go_enter Tryz.func124, Tryz.ntmps124
  go_wp2_with fail
  go_ret
  exact ⟨rfl, rfl⟩
theorem pushes29_12 : Calls Tryz.prog 124 #[.int .i64 12] w fun e w' => e = .returned (.int .i64 ((effI 12).2 : Int)) ∧ w = w' := by
  go_enter Tryz.func124, Tryz.ntmps124
  go_wp2_with fail
  go_ret
  exact ⟨rfl, rfl⟩
theorem pushes29_13 : Calls Tryz.prog 124 #[.int .i64 13] w fun e w' => e = .returned (.int .i64 ((effI 13).2 : Int)) ∧ w = w' := by
  go_enter Tryz.func124, Tryz.ntmps124
  go_wp2_with fail
  go_ret
  exact ⟨rfl, rfl⟩
theorem pushes29_14 : Calls Tryz.prog 124 #[.int .i64 14] w fun e w' => e = .returned (.int .i64 ((effI 14).2 : Int)) ∧ w = w' := by
  go_enter Tryz.func124, Tryz.ntmps124
  go_wp2_with fail
  go_ret
  exact ⟨rfl, rfl⟩
theorem pushes29_15 : Calls Tryz.prog 124 #[.int .i64 15] w fun e w' => e = .returned (.int .i64 ((effI 15).2 : Int)) ∧ w = w' := by
  go_enter Tryz.func124, Tryz.ntmps124
  go_wp2_with fail
  go_ret
  exact ⟨rfl, rfl⟩
theorem pushes29_16 : Calls Tryz.prog 124 #[.int .i64 16] w fun e w' => e = .returned (.int .i64 ((effI 16).2 : Int)) ∧ w = w' := by
  go_enter Tryz.func124, Tryz.ntmps124
  go_wp2_with fail
  go_ret
  exact ⟨rfl, rfl⟩
theorem pushes29_17 : Calls Tryz.prog 124 #[.int .i64 17] w fun e w' => e = .returned (.int .i64 ((effI 17).2 : Int)) ∧ w = w' := by
  go_enter Tryz.func124, Tryz.ntmps124
  go_wp2_with fail
  go_ret
  exact ⟨rfl, rfl⟩
theorem pushes29_18 : Calls Tryz.prog 124 #[.int .i64 18] w fun e w' => e = .returned (.int .i64 ((effI 18).2 : Int)) ∧ w = w' := by
  go_enter Tryz.func124, Tryz.ntmps124
  go_wp2_with fail
  go_ret
  exact ⟨rfl, rfl⟩
theorem pushes29_19 : Calls Tryz.prog 124 #[.int .i64 19] w fun e w' => e = .returned (.int .i64 ((effI 19).2 : Int)) ∧ w = w' := by
  go_enter Tryz.func124, Tryz.ntmps124
  go_wp2_with fail
  go_ret
  exact ⟨rfl, rfl⟩
theorem pushes29_20 : Calls Tryz.prog 124 #[.int .i64 20] w fun e w' => e = .returned (.int .i64 ((effI 20).2 : Int)) ∧ w = w' := by
  go_enter Tryz.func124, Tryz.ntmps124
  go_wp2_with fail
  go_ret
  exact ⟨rfl, rfl⟩
theorem pushes29_21 : Calls Tryz.prog 124 #[.int .i64 21] w fun e w' => e = .returned (.int .i64 ((effI 21).2 : Int)) ∧ w = w' := by
  go_enter Tryz.func124, Tryz.ntmps124
  go_wp2_with fail
  go_ret
  exact ⟨rfl, rfl⟩
theorem pushes29_22 : Calls Tryz.prog 124 #[.int .i64 22] w fun e w' => e = .returned (.int .i64 ((effI 22).2 : Int)) ∧ w = w' := by
  go_enter Tryz.func124, Tryz.ntmps124
  go_wp2_with fail
  go_ret
  exact ⟨rfl, rfl⟩
theorem pushes29_23 : Calls Tryz.prog 124 #[.int .i64 23] w fun e w' => e = .returned (.int .i64 ((effI 23).2 : Int)) ∧ w = w' := by
  go_enter Tryz.func124, Tryz.ntmps124
  go_wp2_with fail
  go_ret
  exact ⟨rfl, rfl⟩
theorem pushes29 {i : Nat} (hi : i < 24) : Calls Tryz.prog 124 #[.int .i64 (i : Int)] w fun e w' => e = .returned (.int .i64 ((effI i).2 : Int)) ∧ w = w' := by
  match i, hi with
  | 0, _ => exact pushes29_0
  | 1, _ => exact pushes29_1
  | 2, _ => exact pushes29_2
  | 3, _ => exact pushes29_3
  | 4, _ => exact pushes29_4
  | 5, _ => exact pushes29_5
  | 6, _ => exact pushes29_6
  | 7, _ => exact pushes29_7
  | 8, _ => exact pushes29_8
  | 9, _ => exact pushes29_9
  | 10, _ => exact pushes29_10
  | 11, _ => exact pushes29_11
  | 12, _ => exact pushes29_12
  | 13, _ => exact pushes29_13
  | 14, _ => exact pushes29_14
  | 15, _ => exact pushes29_15
  | 16, _ => exact pushes29_16
  | 17, _ => exact pushes29_17
  | 18, _ => exact pushes29_18
  | 19, _ => exact pushes29_19
  | 20, _ => exact pushes29_20
  | 21, _ => exact pushes29_21
  | 22, _ => exact pushes29_22
  | 23, _ => exact pushes29_23
  | n + 24, h => exact absurd h (by omega)
end
end Go.Proofs.YtngnenbidpojeaaGreatDoor
