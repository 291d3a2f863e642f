import Derived.Deep.QuietTactic
import Derived.BigQuiet
import Derived.Deep.MidRow
import Derived.Test.YtngnenbidpojeaaGreatDoorT12
import Derived.Test.YtngnenbidpojeaaGreatDoorT16
import Derived.Test.YtngnenbidpojeaaGreatDoorT19
import Derived.Test.YtngnenbidpojeaaGreatDoorT22
/-
 How many an operation takes and pushes: the program's two functions and the document's one.
-/
namespace Go.Proofs.YtngnenbidpojeaaGreatDoor
open Go.RowKit
set_option maxRecDepth 100000
section
variable {w : World}
theorem takes28_0 : Calls Tryz.prog 123 #[.int .i64 0] w fun e w' => e = .returned (.int .i64 ((effI 0).1 : Int)) ∧ w = w' := by
 go_enter Tryz.func123, Tryz.ntmps123
 go_wp2_with fail
 go_ret
 exact ⟨rfl, rfl⟩
theorem takes28_1 : Calls Tryz.prog 123 #[.int .i64 1] w fun e w' => e = .returned (.int .i64 ((effI 1).1 : Int)) ∧ w = w' := by
 go_enter Tryz.func123, Tryz.ntmps123
 go_wp2_with fail
 go_ret
 exact ⟨rfl, rfl⟩
theorem takes28_2 : Calls Tryz.prog 123 #[.int .i64 2] w fun e w' => e = .returned (.int .i64 ((effI 2).1 : Int)) ∧ w = w' := by
 go_enter Tryz.func123, Tryz.ntmps123
 go_wp2_with fail
 go_ret
 exact ⟨rfl, rfl⟩
theorem takes28_3 : Calls Tryz.prog 123 #[.int .i64 3] w fun e w' => e = .returned (.int .i64 ((effI 3).1 : Int)) ∧ w = w' := by
 go_enter Tryz.func123, Tryz.ntmps123
 go_wp2_with fail
 go_ret
 exact ⟨rfl, rfl⟩
theorem takes28_4 : Calls Tryz.prog 123 #[.int .i64 4] w fun e w' => e = .returned (.int .i64 ((effI 4).1 : Int)) ∧ w = w' := by
 go_enter Tryz.func123, Tryz.ntmps123
 go_wp2_with fail
 go_ret
 exact ⟨rfl, rfl⟩
theorem takes28_5 : Calls Tryz.prog 123 #[.int .i64 5] w fun e w' => e = .returned (.int .i64 ((effI 5).1 : Int)) ∧ w = w' := by
 go_enter Tryz.func123, Tryz.ntmps123
 go_wp2_with fail
 go_ret
 exact ⟨rfl, rfl⟩
theorem takes28_6 : Calls Tryz.prog 123 #[.int .i64 6] w fun e w' => e = .returned (.int .i64 ((effI 6).1 : Int)) ∧ w = w' := by
 go_enter Tryz.func123, Tryz.ntmps123
 go_wp2_with fail
 go_ret
 exact ⟨rfl, rfl⟩
theorem takes28_7 : Calls Tryz.prog 123 #[.int .i64 7] w fun e w' => e = .returned (.int .i64 ((effI 7).1 : Int)) ∧ w = w' := by
 go_enter Tryz.func123, Tryz.ntmps123
 go_wp2_with fail
 go_ret
 exact ⟨rfl, rfl⟩
theorem takes28_8 : Calls Tryz.prog 123 #[.int .i64 8] w fun e w' => e = .returned (.int .i64 ((effI 8).1 : Int)) ∧ w = w' := by
 go_enter Tryz.func123, Tryz.ntmps123
 go_wp2_with fail
 go_ret
 exact ⟨rfl, rfl⟩
theorem takes28_9 : Calls Tryz.prog 123 #[.int .i64 9] w fun e w' => e = .returned (.int .i64 ((effI 9).1 : Int)) ∧ w = w' := by
 go_enter Tryz.func123, Tryz.ntmps123
 go_wp2_with fail
 go_ret
 exact ⟨rfl, rfl⟩
theorem takes28_10 : Calls Tryz.prog 123 #[.int .i64 10] w fun e w' => e = .returned (.int .i64 ((effI 10).1 : Int)) ∧ w = w' := by
 go_enter Tryz.func123, Tryz.ntmps123
 go_wp2_with fail
 go_ret
 exact ⟨rfl, rfl⟩
theorem takes28_11 : Calls Tryz.prog 123 #[.int .i64 11] w fun e w' => e = .returned (.int .i64 ((effI 11).1 : Int)) ∧ w = w' := by
 go_enter Tryz.func123, Tryz.ntmps123
 go_wp2_with fail
 go_ret
 exact ⟨rfl, rfl⟩
theorem takes28_12 : Calls Tryz.prog 123 #[.int .i64 12] w fun e w' => e = .returned (.int .i64 ((effI 12).1 : Int)) ∧ w = w' := by
 go_enter Tryz.func123, Tryz.ntmps123
 go_wp2_with fail
 go_ret
 exact ⟨rfl, rfl⟩
theorem takes28_13 : Calls Tryz.prog 123 #[.int .i64 13] w fun e w' => e = .returned (.int .i64 ((effI 13).1 : Int)) ∧ w = w' := by
 go_enter Tryz.func123, Tryz.ntmps123
 go_wp2_with fail
 go_ret
 exact ⟨rfl, rfl⟩
theorem takes28_14 : Calls Tryz.prog 123 #[.int .i64 14] w fun e w' => e = .returned (.int .i64 ((effI 14).1 : Int)) ∧ w = w' := by
 go_enter Tryz.func123, Tryz.ntmps123
 go_wp2_with fail
 go_ret
 exact ⟨rfl, rfl⟩
theorem takes28_15 : Calls Tryz.prog 123 #[.int .i64 15] w fun e w' => e = .returned (.int .i64 ((effI 15).1 : Int)) ∧ w = w' := by
 go_enter Tryz.func123, Tryz.ntmps123
 go_wp2_with fail
 go_ret
 exact ⟨rfl, rfl⟩
theorem takes28_16 : Calls Tryz.prog 123 #[.int .i64 16] w fun e w' => e = .returned (.int .i64 ((effI 16).1 : Int)) ∧ w = w' := by
 go_enter Tryz.func123, Tryz.ntmps123
 go_wp2_with fail
 go_ret
 exact ⟨rfl, rfl⟩
theorem takes28_17 : Calls Tryz.prog 123 #[.int .i64 17] w fun e w' => e = .returned (.int .i64 ((effI 17).1 : Int)) ∧ w = w' := by
 go_enter Tryz.func123, Tryz.ntmps123
 go_wp2_with fail
 go_ret
 exact ⟨rfl, rfl⟩
theorem takes28_18 : Calls Tryz.prog 123 #[.int .i64 18] w fun e w' => e = .returned (.int .i64 ((effI 18).1 : Int)) ∧ w = w' := by
 go_enter Tryz.func123, Tryz.ntmps123
 go_wp2_with fail
 go_ret
 exact ⟨rfl, rfl⟩
theorem takes28_19 : Calls Tryz.prog 123 #[.int .i64 19] w fun e w' => e = .returned (.int .i64 ((effI 19).1 : Int)) ∧ w = w' := by
 go_enter Tryz.func123, Tryz.ntmps123
 go_wp2_with fail
 go_ret
 exact ⟨rfl, rfl⟩
theorem takes28_20 : Calls Tryz.prog 123 #[.int .i64 20] w fun e w' => e = .returned (.int .i64 ((effI 20).1 : Int)) ∧ w = w' := by
 go_enter Tryz.func123, Tryz.ntmps123
 go_wp2_with fail
 go_ret
 exact ⟨rfl, rfl⟩
theorem takes28_21 : Calls Tryz.prog 123 #[.int .i64 21] w fun e w' => e = .returned (.int .i64 ((effI 21).1 : Int)) ∧ w = w' := by
 go_enter Tryz.func123, Tryz.ntmps123
 go_wp2_with fail
 go_ret
 exact ⟨rfl, rfl⟩
theorem takes28_22 : Calls Tryz.prog 123 #[.int .i64 22] w fun e w' => e = .returned (.int .i64 ((effI 22).1 : Int)) ∧ w = w' := by
 go_enter Tryz.func123, Tryz.ntmps123
 go_wp2_with fail
 go_ret
 exact ⟨rfl, rfl⟩
theorem takes28_23 : Calls Tryz.prog 123 #[.int .i64 23] w fun e w' => e = .returned (.int .i64 ((effI 23).1 : Int)) ∧ w = w' := by
 go_enter Tryz.func123, Tryz.ntmps123
 go_wp2_with fail
 go_ret
 exact ⟨rfl, rfl⟩
theorem takes28 {i : Nat} (hi : i < 24) : Calls Tryz.prog 123 #[.int .i64 (i : Int)] w fun e w' => e = .returned (.int .i64 ((effI i).1 : Int)) ∧ w = w' := by
 match i, hi with
 | 0, _ => exact takes28_0
 | 1, _ => exact takes28_1
 | 2, _ => exact takes28_2
 | 3, _ => exact takes28_3
 | 4, _ => exact takes28_4
 | 5, _ => exact takes28_5
 | 6, _ => exact takes28_6
 | 7, _ => exact takes28_7
 | 8, _ => exact takes28_8
 | 9, _ => exact takes28_9
 | 10, _ => exact takes28_10
 | 11, _ => exact takes28_11
 | 12, _ => exact takes28_12
 | 13, _ => exact takes28_13
 | 14, _ => exact takes28_14
 | 15, _ => exact takes28_15
 | 16, _ => exact takes28_16
 | 17, _ => exact takes28_17
 | 18, _ => exact takes28_18
 | 19, _ => exact takes28_19
 | 20, _ => exact takes28_20
 | 21, _ => exact takes28_21
 | 22, _ => exact takes28_22
 | 23, _ => exact takes28_23
 | n + 24, h => exact absurd h (by omega)
theorem pushes29_0 : Calls Tryz.prog 124 #[.int .i64 0] w fun e w' => e = .returned (.int .i64 ((effI 0).2 : Int)) ∧ w = w' := by
 go_enter Tryz.func124, Tryz.ntmps124
 go_wp2_with fail
 go_ret
 exact ⟨rfl, rfl⟩
theorem pushes29_1 : Calls Tryz.prog 124 #[.int .i64 1] w fun e w' => e = .returned (.int .i64 ((effI 1).2 : Int)) ∧ w = w' := by
 go_enter Tryz.func124, Tryz.ntmps124
 go_wp2_with fail
 go_ret
 exact ⟨rfl, rfl⟩
theorem pushes29_2 : Calls Tryz.prog 124 #[.int .i64 2] w fun e w' => e = .returned (.int .i64 ((effI 2).2 : Int)) ∧ w = w' := by
 go_enter Tryz.func124, Tryz.ntmps124
 go_wp2_with fail
 go_ret
 exact ⟨rfl, rfl⟩
theorem pushes29_3 : Calls Tryz.prog 124 #[.int .i64 3] w fun e w' => e = .returned (.int .i64 ((effI 3).2 : Int)) ∧ w = w' := by
 go_enter Tryz.func124, Tryz.ntmps124
 go_wp2_with fail
 go_ret
 exact ⟨rfl, rfl⟩
theorem pushes29_4 : Calls Tryz.prog 124 #[.int .i64 4] w fun e w' => e = .returned (.int .i64 ((effI 4).2 : Int)) ∧ w = w' := by
 go_enter Tryz.func124, Tryz.ntmps124
 go_wp2_with fail
 go_ret
 exact ⟨rfl, rfl⟩
theorem pushes29_5 : Calls Tryz.prog 124 #[.int .i64 5] w fun e w' => e = .returned (.int .i64 ((effI 5).2 : Int)) ∧ w = w' := by
 go_enter Tryz.func124, Tryz.ntmps124
 go_wp2_with fail
 go_ret
 exact ⟨rfl, rfl⟩
theorem pushes29_6 : Calls Tryz.prog 124 #[.int .i64 6] w fun e w' => e = .returned (.int .i64 ((effI 6).2 : Int)) ∧ w = w' := by
 go_enter Tryz.func124, Tryz.ntmps124
 go_wp2_with fail
 go_ret
 exact ⟨rfl, rfl⟩
theorem pushes29_7 : Calls Tryz.prog 124 #[.int .i64 7] w fun e w' => e = .returned (.int .i64 ((effI 7).2 : Int)) ∧ w = w' := by
 go_enter Tryz.func124, Tryz.ntmps124
 go_wp2_with fail
 go_ret
 exact ⟨rfl, rfl⟩
theorem pushes29_8 : Calls Tryz.prog 124 #[.int .i64 8] w fun e w' => e = .returned (.int .i64 ((effI 8).2 : Int)) ∧ w = w' := by
 go_enter Tryz.func124, Tryz.ntmps124
 go_wp2_with fail
 go_ret
 exact ⟨rfl, rfl⟩
theorem pushes29_9 : Calls Tryz.prog 124 #[.int .i64 9] w fun e w' => e = .returned (.int .i64 ((effI 9).2 : Int)) ∧ w = w' := by
 go_enter Tryz.func124, Tryz.ntmps124
 go_wp2_with fail
 go_ret
 exact ⟨rfl, rfl⟩
theorem pushes29_10 : Calls Tryz.prog 124 #[.int .i64 10] w fun e w' => e = .returned (.int .i64 ((effI 10).2 : Int)) ∧ w = w' := by
 go_enter Tryz.func124, Tryz.ntmps124
 go_wp2_with fail
 go_ret
 exact ⟨rfl, rfl⟩
theorem pushes29_11 : Calls Tryz.prog 124 #[.int .i64 11] w fun e w' => e = .returned (.int .i64 ((effI 11).2 : Int)) ∧ w = w' := by
 go_enter Tryz.func124, Tryz.ntmps124
 go_wp2_with fail
 go_ret
 exact ⟨rfl, rfl⟩
theorem pushes29_12 : Calls Tryz.prog 124 #[.int .i64 12] w fun e w' => e = .returned (.int .i64 ((effI 12).2 : Int)) ∧ w = w' := by
 go_enter Tryz.func124, Tryz.ntmps124
 go_wp2_with fail
 go_ret
 exact ⟨rfl, rfl⟩
theorem pushes29_13 : Calls Tryz.prog 124 #[.int .i64 13] w fun e w' => e = .returned (.int .i64 ((effI 13).2 : Int)) ∧ w = w' := by
 go_enter Tryz.func124, Tryz.ntmps124
 go_wp2_with fail
 go_ret
 exact ⟨rfl, rfl⟩
theorem pushes29_14 : Calls Tryz.prog 124 #[.int .i64 14] w fun e w' => e = .returned (.int .i64 ((effI 14).2 : Int)) ∧ w = w' := by
 go_enter Tryz.func124, Tryz.ntmps124
 go_wp2_with fail
 go_ret
 exact ⟨rfl, rfl⟩
theorem pushes29_15 : Calls Tryz.prog 124 #[.int .i64 15] w fun e w' => e = .returned (.int .i64 ((effI 15).2 : Int)) ∧ w = w' := by
 go_enter Tryz.func124, Tryz.ntmps124
 go_wp2_with fail
 go_ret
 exact ⟨rfl, rfl⟩
theorem pushes29_16 : Calls Tryz.prog 124 #[.int .i64 16] w fun e w' => e = .returned (.int .i64 ((effI 16).2 : Int)) ∧ w = w' := by
 go_enter Tryz.func124, Tryz.ntmps124
 go_wp2_with fail
 go_ret
 exact ⟨rfl, rfl⟩
theorem pushes29_17 : Calls Tryz.prog 124 #[.int .i64 17] w fun e w' => e = .returned (.int .i64 ((effI 17).2 : Int)) ∧ w = w' := by
 go_enter Tryz.func124, Tryz.ntmps124
 go_wp2_with fail
 go_ret
 exact ⟨rfl, rfl⟩
theorem pushes29_18 : Calls Tryz.prog 124 #[.int .i64 18] w fun e w' => e = .returned (.int .i64 ((effI 18).2 : Int)) ∧ w = w' := by
 go_enter Tryz.func124, Tryz.ntmps124
 go_wp2_with fail
 go_ret
 exact ⟨rfl, rfl⟩
theorem pushes29_19 : Calls Tryz.prog 124 #[.int .i64 19] w fun e w' => e = .returned (.int .i64 ((effI 19).2 : Int)) ∧ w = w' := by
 go_enter Tryz.func124, Tryz.ntmps124
 go_wp2_with fail
 go_ret
 exact ⟨rfl, rfl⟩
theorem pushes29_20 : Calls Tryz.prog 124 #[.int .i64 20] w fun e w' => e = .returned (.int .i64 ((effI 20).2 : Int)) ∧ w = w' := by
 go_enter Tryz.func124, Tryz.ntmps124
 go_wp2_with fail
 go_ret
 exact ⟨rfl, rfl⟩
theorem pushes29_21 : Calls Tryz.prog 124 #[.int .i64 21] w fun e w' => e = .returned (.int .i64 ((effI 21).2 : Int)) ∧ w = w' := by
 go_enter Tryz.func124, Tryz.ntmps124
 go_wp2_with fail
 go_ret
 exact ⟨rfl, rfl⟩
theorem pushes29_22 : Calls Tryz.prog 124 #[.int .i64 22] w fun e w' => e = .returned (.int .i64 ((effI 22).2 : Int)) ∧ w = w' := by
 go_enter Tryz.func124, Tryz.ntmps124
 go_wp2_with fail
 go_ret
 exact ⟨rfl, rfl⟩
theorem pushes29_23 : Calls Tryz.prog 124 #[.int .i64 23] w fun e w' => e = .returned (.int .i64 ((effI 23).2 : Int)) ∧ w = w' := by
 go_enter Tryz.func124, Tryz.ntmps124
 go_wp2_with fail
 go_ret
 exact ⟨rfl, rfl⟩
theorem pushes29 {i : Nat} (hi : i < 24) : Calls Tryz.prog 124 #[.int .i64 (i : Int)] w fun e w' => e = .returned (.int .i64 ((effI i).2 : Int)) ∧ w = w' := by
 match i, hi with
 | 0, _ => exact pushes29_0
 | 1, _ => exact pushes29_1
 | 2, _ => exact pushes29_2
 | 3, _ => exact pushes29_3
 | 4, _ => exact pushes29_4
 | 5, _ => exact pushes29_5
 | 6, _ => exact pushes29_6
 | 7, _ => exact pushes29_7
 | 8, _ => exact pushes29_8
 | 9, _ => exact pushes29_9
 | 10, _ => exact pushes29_10
 | 11, _ => exact pushes29_11
 | 12, _ => exact pushes29_12
 | 13, _ => exact pushes29_13
 | 14, _ => exact pushes29_14
 | 15, _ => exact pushes29_15
 | 16, _ => exact pushes29_16
 | 17, _ => exact pushes29_17
 | 18, _ => exact pushes29_18
 | 19, _ => exact pushes29_19
 | 20, _ => exact pushes29_20
 | 21, _ => exact pushes29_21
 | 22, _ => exact pushes29_22
 | 23, _ => exact pushes29_23
 | n + 24, h => exact absurd h (by omega)
theorem effect35_0 : Calls Tryz.prog 129 #[.int .i64 0] w fun e w' => e = .returned (.tuple #[.int .i64 ((effI 0).1 : Int), .int .i64 ((effI 0).2 : Int)]) ∧ w = w' := by
 go_enter Tryz.func129, Tryz.ntmps129
 go_wp2_with fail
 go_ret2
 exact ⟨rfl, rfl⟩
theorem effect35_1 : Calls Tryz.prog 129 #[.int .i64 1] w fun e w' => e = .returned (.tuple #[.int .i64 ((effI 1).1 : Int), .int .i64 ((effI 1).2 : Int)]) ∧ w = w' := by
 go_enter Tryz.func129, Tryz.ntmps129
 go_wp2_with fail
 go_ret2
 exact ⟨rfl, rfl⟩
theorem effect35_2 : Calls Tryz.prog 129 #[.int .i64 2] w fun e w' => e = .returned (.tuple #[.int .i64 ((effI 2).1 : Int), .int .i64 ((effI 2).2 : Int)]) ∧ w = w' := by
 go_enter Tryz.func129, Tryz.ntmps129
 go_wp2_with fail
 go_ret2
 exact ⟨rfl, rfl⟩
theorem effect35_3 : Calls Tryz.prog 129 #[.int .i64 3] w fun e w' => e = .returned (.tuple #[.int .i64 ((effI 3).1 : Int), .int .i64 ((effI 3).2 : Int)]) ∧ w = w' := by
 go_enter Tryz.func129, Tryz.ntmps129
 go_wp2_with fail
 go_ret2
 exact ⟨rfl, rfl⟩
theorem effect35_4 : Calls Tryz.prog 129 #[.int .i64 4] w fun e w' => e = .returned (.tuple #[.int .i64 ((effI 4).1 : Int), .int .i64 ((effI 4).2 : Int)]) ∧ w = w' := by
 go_enter Tryz.func129, Tryz.ntmps129
 go_wp2_with fail
 go_ret2
 exact ⟨rfl, rfl⟩
theorem effect35_5 : Calls Tryz.prog 129 #[.int .i64 5] w fun e w' => e = .returned (.tuple #[.int .i64 ((effI 5).1 : Int), .int .i64 ((effI 5).2 : Int)]) ∧ w = w' := by
 go_enter Tryz.func129, Tryz.ntmps129
 go_wp2_with fail
 go_ret2
 exact ⟨rfl, rfl⟩
theorem effect35_6 : Calls Tryz.prog 129 #[.int .i64 6] w fun e w' => e = .returned (.tuple #[.int .i64 ((effI 6).1 : Int), .int .i64 ((effI 6).2 : Int)]) ∧ w = w' := by
 go_enter Tryz.func129, Tryz.ntmps129
 go_wp2_with fail
 go_ret2
 exact ⟨rfl, rfl⟩
theorem effect35_7 : Calls Tryz.prog 129 #[.int .i64 7] w fun e w' => e = .returned (.tuple #[.int .i64 ((effI 7).1 : Int), .int .i64 ((effI 7).2 : Int)]) ∧ w = w' := by
 go_enter Tryz.func129, Tryz.ntmps129
 go_wp2_with fail
 go_ret2
 exact ⟨rfl, rfl⟩
theorem effect35_8 : Calls Tryz.prog 129 #[.int .i64 8] w fun e w' => e = .returned (.tuple #[.int .i64 ((effI 8).1 : Int), .int .i64 ((effI 8).2 : Int)]) ∧ w = w' := by
 go_enter Tryz.func129, Tryz.ntmps129
 go_wp2_with fail
 go_ret2
 exact ⟨rfl, rfl⟩
theorem effect35_9 : Calls Tryz.prog 129 #[.int .i64 9] w fun e w' => e = .returned (.tuple #[.int .i64 ((effI 9).1 : Int), .int .i64 ((effI 9).2 : Int)]) ∧ w = w' := by
 go_enter Tryz.func129, Tryz.ntmps129
 go_wp2_with fail
 go_ret2
 exact ⟨rfl, rfl⟩
theorem effect35_10 : Calls Tryz.prog 129 #[.int .i64 10] w fun e w' => e = .returned (.tuple #[.int .i64 ((effI 10).1 : Int), .int .i64 ((effI 10).2 : Int)]) ∧ w = w' := by
 go_enter Tryz.func129, Tryz.ntmps129
 go_wp2_with fail
 go_ret2
 exact ⟨rfl, rfl⟩
theorem effect35_11 : Calls Tryz.prog 129 #[.int .i64 11] w fun e w' => e = .returned (.tuple #[.int .i64 ((effI 11).1 : Int), .int .i64 ((effI 11).2 : Int)]) ∧ w = w' := by
 go_enter Tryz.func129, Tryz.ntmps129
 go_wp2_with fail
 go_ret2
 exact ⟨rfl, rfl⟩
theorem effect35_12 : Calls Tryz.prog 129 #[.int .i64 12] w fun e w' => e = .returned (.tuple #[.int .i64 ((effI 12).1 : Int), .int .i64 ((effI 12).2 : Int)]) ∧ w = w' := by
 go_enter Tryz.func129, Tryz.ntmps129
 go_wp2_with fail
 go_ret2
 exact ⟨rfl, rfl⟩
theorem effect35_13 : Calls Tryz.prog 129 #[.int .i64 13] w fun e w' => e = .returned (.tuple #[.int .i64 ((effI 13).1 : Int), .int .i64 ((effI 13).2 : Int)]) ∧ w = w' := by
 go_enter Tryz.func129, Tryz.ntmps129
 go_wp2_with fail
 go_ret2
 exact ⟨rfl, rfl⟩
theorem effect35_14 : Calls Tryz.prog 129 #[.int .i64 14] w fun e w' => e = .returned (.tuple #[.int .i64 ((effI 14).1 : Int), .int .i64 ((effI 14).2 : Int)]) ∧ w = w' := by
 go_enter Tryz.func129, Tryz.ntmps129
 go_wp2_with fail
 go_ret2
 exact ⟨rfl, rfl⟩
theorem effect35_15 : Calls Tryz.prog 129 #[.int .i64 15] w fun e w' => e = .returned (.tuple #[.int .i64 ((effI 15).1 : Int), .int .i64 ((effI 15).2 : Int)]) ∧ w = w' := by
 go_enter Tryz.func129, Tryz.ntmps129
 go_wp2_with fail
 go_ret2
 exact ⟨rfl, rfl⟩
theorem effect35_16 : Calls Tryz.prog 129 #[.int .i64 16] w fun e w' => e = .returned (.tuple #[.int .i64 ((effI 16).1 : Int), .int .i64 ((effI 16).2 : Int)]) ∧ w = w' := by
 go_enter Tryz.func129, Tryz.ntmps129
 go_wp2_with fail
 go_ret2
 exact ⟨rfl, rfl⟩
theorem effect35_17 : Calls Tryz.prog 129 #[.int .i64 17] w fun e w' => e = .returned (.tuple #[.int .i64 ((effI 17).1 : Int), .int .i64 ((effI 17).2 : Int)]) ∧ w = w' := by
 go_enter Tryz.func129, Tryz.ntmps129
 go_wp2_with fail
 go_ret2
 exact ⟨rfl, rfl⟩
theorem effect35_18 : Calls Tryz.prog 129 #[.int .i64 18] w fun e w' => e = .returned (.tuple #[.int .i64 ((effI 18).1 : Int), .int .i64 ((effI 18).2 : Int)]) ∧ w = w' := by
 go_enter Tryz.func129, Tryz.ntmps129
 go_wp2_with fail
 go_ret2
 exact ⟨rfl, rfl⟩
theorem effect35_19 : Calls Tryz.prog 129 #[.int .i64 19] w fun e w' => e = .returned (.tuple #[.int .i64 ((effI 19).1 : Int), .int .i64 ((effI 19).2 : Int)]) ∧ w = w' := by
 go_enter Tryz.func129, Tryz.ntmps129
 go_wp2_with fail
 go_ret2
 exact ⟨rfl, rfl⟩
theorem effect35_20 : Calls Tryz.prog 129 #[.int .i64 20] w fun e w' => e = .returned (.tuple #[.int .i64 ((effI 20).1 : Int), .int .i64 ((effI 20).2 : Int)]) ∧ w = w' := by
 go_enter Tryz.func129, Tryz.ntmps129
 go_wp2_with fail
 go_ret2
 exact ⟨rfl, rfl⟩
theorem effect35_21 : Calls Tryz.prog 129 #[.int .i64 21] w fun e w' => e = .returned (.tuple #[.int .i64 ((effI 21).1 : Int), .int .i64 ((effI 21).2 : Int)]) ∧ w = w' := by
 go_enter Tryz.func129, Tryz.ntmps129
 go_wp2_with fail
 go_ret2
 exact ⟨rfl, rfl⟩
theorem effect35_22 : Calls Tryz.prog 129 #[.int .i64 22] w fun e w' => e = .returned (.tuple #[.int .i64 ((effI 22).1 : Int), .int .i64 ((effI 22).2 : Int)]) ∧ w = w' := by
 go_enter Tryz.func129, Tryz.ntmps129
 go_wp2_with fail
 go_ret2
 exact ⟨rfl, rfl⟩
theorem effect35_23 : Calls Tryz.prog 129 #[.int .i64 23] w fun e w' => e = .returned (.tuple #[.int .i64 ((effI 23).1 : Int), .int .i64 ((effI 23).2 : Int)]) ∧ w = w' := by
 go_enter Tryz.func129, Tryz.ntmps129
 go_wp2_with fail
 go_ret2
 exact ⟨rfl, rfl⟩
theorem effect35 {i : Nat} (hi : i < 24) : Calls Tryz.prog 129 #[.int .i64 (i : Int)] w fun e w' => e = .returned (.tuple #[.int .i64 ((effI i).1 : Int), .int .i64 ((effI i).2 : Int)]) ∧ w = w' := by
 match i, hi with
 | 0, _ => exact effect35_0
 | 1, _ => exact effect35_1
 | 2, _ => exact effect35_2
 | 3, _ => exact effect35_3
 | 4, _ => exact effect35_4
 | 5, _ => exact effect35_5
 | 6, _ => exact effect35_6
 | 7, _ => exact effect35_7
 | 8, _ => exact effect35_8
 | 9, _ => exact effect35_9
 | 10, _ => exact effect35_10
 | 11, _ => exact effect35_11
 | 12, _ => exact effect35_12
 | 13, _ => exact effect35_13
 | 14, _ => exact effect35_14
 | 15, _ => exact effect35_15
 | 16, _ => exact effect35_16
 | 17, _ => exact effect35_17
 | 18, _ => exact effect35_18
 | 19, _ => exact effect35_19
 | 20, _ => exact effect35_20
 | 21, _ => exact effect35_21
 | 22, _ => exact effect35_22
 | 23, _ => exact effect35_23
 | n + 24, h => exact absurd h (by omega)
end
set_option linter.unusedVariables false
section
variable {B : Bs} {w w' : World} {p : Nat} {m : Mc} {k : Nat} {stk : List Int} {ev sn tm : Value}
theorem MS.c_k (h : MS B w p m k stk ev sn tm) : w.cell? ⟨p, 36, none⟩ = some (Iv_N (k : Int)) := h.rs.cell_res (by rw [h.len]) (cellsR_k h.rs.r8)
theorem MS.put_k (h : MS B w p m k stk ev sn tm) (q : Nat) : MS B (w.setCell ⟨p, 36, none⟩ (Iv_N (q : Int))) p m q stk ev sn tm := ⟨h.s16, h.top, h.rs.put_k tyM_ok (by rw [h.len]) rfl⟩
set_option maxHeartbeats 2000000 in
theorem step19_out (h : MSt B w p m 500) : Calls Tryz.prog 94 #[.pointer (some ⟨p, 0, none⟩)] w fun e w' => e = .returned (.int .i64 11) ∧ MSt B w' p m 500 := by
 have HM := Hid.mk h
 obtain ⟨stk, ev, sn, tm, h⟩ := h
 have c0 := h.c_k
 clear h
 go_enter Tryz.func94, Tryz.ntmps94
 go_wp2_with fail
 go_ret
 exact ⟨rfl, HM.out⟩
theorem MS.c_ins (hB : B.Ok) (h : MS B w p m k stk ev sn tm) {x : In} (hx : B.pg.code[m.at_]? = some x) : ∃ b o d, w.cell? ⟨p, 1, none⟩ = some (.slice (some ⟨b, o, none⟩) B.pg.code.length d) ∧ w.cell? ⟨b, o + m.at_ * 2, none⟩ = some (.int .i64 x.op) ∧ w.cell? ⟨b, o + m.at_ * 2 + 1, none⟩ = some (.int .i64 x.arg) := by
 obtain ⟨b, d, c0, e0⟩ := h.c_code hB
 have hN := (hB.prog.keep h.rs.kept).code
 rw [e0] at hN
 obtain ⟨hl, he⟩ := List.getElem?_eq_some_iff.1 hx
 obtain ⟨b, o, rfl, hc⟩ := code_at hN hl
 rw [he] at hc
 exact ⟨b, o, d, c0, hc⟩
theorem eff_le {i : Nat} : (effI i).1 ≤ 2 ∧ (effI i).2 ≤ 2 := by
 unfold effI
 repeat' (split)
 all_goals (constructor <;> decide)
set_option maxHeartbeats 4000000 in
theorem step19_t {i : Nat} {arg : Int} (hG : B.Good) (h : MSt B w p m k) (hx : B.pg.code[m.at_]? = some ⟨(i : Int), arg⟩) (hk : k < 500) (hF : Fit B.pg i arg) (hL : Lite m) : Calls Tryz.prog 94 #[.pointer (some ⟨p, 0, none⟩)] w fun e w' => ∃ c, e = .returned (.int .i64 c) ∧ OuC B p (k + 1) (oneI B.pg B.l B.now m ⟨(i : Int), arg⟩) c w' := by
 obtain ⟨stk, ev, sn, tm, h⟩ := h
 have c0 := h.c_k
 have f0 := h.rs.free 36
 have h1 := h.put_k (k + 1)
 obtain ⟨b, o, d, c1, c2, c3⟩ := h1.c_ins hG.ok hx
 have c4 := h1.c_at
 have hat : m.at_ < B.pg.code.length := (List.getElem?_eq_some_iff.1 hx).1
 have hat2 : m.at_ < 200 := by have := hG.few; omega
 have q0 : (0 : Int) ≤ (m.at_ : Int) := by omega
 have q1 : (m.at_ : Int) < (B.pg.code.length : Int) := by omega
 have qk : ((k : Int) == 500) = false := by simp only [beq_eq_false_iff_ne, ne_eq]; omega
 have qk2 : ¬ (k : Int) = 500 := by omega
 dsimp only at c2 c3
 rw [show ((k + 1 : Nat) : Int) = (k : Int) + 1 by omega] at *
 have e1 : ∃ w1, w.setCell ⟨p, 36, none⟩ (Iv_N ((k : Int) + 1)) = w1 := ⟨_, rfl⟩
 obtain ⟨w1, e1⟩ := e1
 rw [e1] at c1 c2 c3 c4 h1
 have SP : Hid (∀ W, Kept [] w1 W → W.cell? ⟨p, 1, none⟩ = some (.slice (some ⟨b, o, none⟩) B.pg.code.length d) ∧ W.cell? ⟨p, 7, none⟩ = some (Iv_N (m.at_ : Int)) ∧ W.cell? ⟨b, o + m.at_ * 2, none⟩ = some (.int .i64 (i : Int)) ∧ W.cell? ⟨b, o + m.at_ * 2 + 1, none⟩ = some (.int .i64 arg)) := fun W kk => ⟨kk.cell_eq c1, kk.cell_eq c4, kk.cell_eq c2, kk.cell_eq c3⟩
 have HE := Hid.mk e1
 clear e1 c1 c2 c3 c4
 go_enter Tryz.func94, Tryz.ntmps94
 go_wp2_with fail
 rw [HE.out]
 go_region_held3 (fun V => V.cell? ⟨p, 1, none⟩ = some (.slice (some ⟨b, o, none⟩) B.pg.code.length d) ∧ V.cell? ⟨p, 7, none⟩ = some (Iv_N (m.at_ : Int)) ∧ V.cell? ⟨b, o + m.at_ * 2, none⟩ = some (.int .i64 (i : Int)) ∧ V.cell? ⟨b, o + m.at_ * 2 + 1, none⟩ = some (.int .i64 arg)) (first | exact SP.out _ (Kept.refl [] _).drew | exact SP.out _ ((Kept.refl [] _).alloc _).drew) (fail)
 obtain ⟨W2, e2⟩ : ∃ W2, (w1.alloc (.cells #[.int .i64 (i : Int), .int .i64 arg] 83)).drew = W2 := ⟨_, rfl⟩
 rw [e2]
 have k2 : Kept [] w1 W2 := by rw [← e2]; exact ((Kept.refl [] _).alloc _).drew
 have hb2 : W2.heap[w1.heap.size]? = some (.cells #[.int .i64 (i : Int), .int .i64 arg] 83) := by rw [← e2]; exact heap_alloc_new w1 _
 have h2 := h1.keep k2
 have hpg : p ≠ w1.heap.size := Nat.ne_of_lt (lt_of_block h1.rs.box)
 clear e2 SP HE c0 f0
 generalize w1.heap.size = g at *
 have c5 := h2.c_at
 have f5 := h2.rs.free 7
 have q3 : ((m.at_ + 1 : Nat) : Int) = (m.at_ : Int) + 1 := by omega
 obtain ⟨W3, e3⟩ : ∃ W3, W2.setCell ⟨p, 7, none⟩ (Iv_N ((m.at_ : Int) + 1)) = W3 := ⟨_, rfl⟩
 have h3 := h2.put_at (m.at_ + 1)
 rw [q3, e3] at h3
 have k3 : Kept [p] W2 W3 := by rw [← e3]; exact (Kept.refl [p] W2).setCell (.inl (by simp)) _
 have hb3 := k3.keeps hb2 (by simpa using Ne.symm hpg)
 have HE3 := Hid.mk e3
 clear e3 q3
 go_wp2_with fail
 rw [HE3.out]
 obtain ⟨z0, z1⟩ := cells2_N hb3
 have HB := Hid.mk hb3
 have hle := h3.le
 dsimp only at hle
 have HM := Hid.mk h3
 have c6 : W3.cell? ⟨p, 24, none⟩ = some (Iv_N (m.st.length : Int)) := by
  obtain ⟨_, _, _, _, h5⟩ := h3
  exact h5.dep
 have HT := Hid.mk (fun W => takes28 (w := W) hF.op)
 have HP := Hid.mk (fun W => pushes29 (w := W) hF.op)
 have ht2 : (effI i).1 ≤ 2 := eff_le.1
 have hg2 : (effI i).2 ≤ 2 := eff_le.2
 have HO : Hid (∀ t gv, t = (effI i).1 → gv = (effI i).2 → oneI B.pg B.l B.now m ⟨(i : Int), arg⟩ = (if m.st.length < t ∨ 16 < m.st.length - t + gv then .err 10 else if t = 2 then actI B.pg B.l B.now { m with at_ := m.at_ + 1, st := m.st.dropLast.dropLast } i gv arg (m.st.dropLast.getLastD 0) (m.st.getLastD 0) else if t = 1 then actI B.pg B.l B.now { m with at_ := m.at_ + 1, st := m.st.dropLast } i gv arg (m.st.getLastD 0) 0 else actI B.pg B.l B.now { m with at_ := m.at_ + 1 } i gv arg 0 0)) := fun t gv e1 e2 => by subst e1 e2; rfl
 have HR : Hid (∀ gv, gv = (effI i).2 → 0 < gv → ∀ (W : World) (m' : Mc) (x y : Int), MSt B W p m' (k + 1) → m'.st.length + gv ≤ 16 → Calls Tryz.prog 126 #[.pointer (some ⟨p, 0, none⟩), .agg #[.int .i64 (i : Int), .int .i64 arg], .int .i64 x, .int .i64 y] W fun e w' => e = .returned (.tuple #[]) ∧ ∃ m2, actI B.pg B.l B.now m' i gv arg x y = .go m2 ∧ MSt B w' p m2 (k + 1)) := fun gv e1 h0 W m' x y hM hl => by subst e1; exact reckon31_any hG hM hF x y h0 hl
 have HA : Hid (∀ gv, gv = (effI i).2 → gv = 0 → ∀ (W : World) (m' : Mc) (x y : Int), MSt B W p m' (k + 1) → Lite m' → Calls Tryz.prog 127 #[.pointer (some ⟨p, 0, none⟩), .agg #[.int .i64 (i : Int), .int .i64 arg], .int .i64 x, .int .i64 y] W fun e w' => ∃ c, e = .returned (.int .i64 c) ∧ OuC B p (k + 1) (actI B.pg B.l B.now m' i gv arg x y) c w') := fun gv e1 h0 W m' x y hM hl => by subst e1; exact act32_any hG hM hF x y h0 hl
 generalize (effI i).1 = t at *
 generalize (effI i).2 = gv at *
 have HO2 := Hid.mk (HO.out t gv rfl rfl)
 have HR := Hid.mk (HR.out gv rfl)
 have HA := Hid.mk (HA.out gv rfl)
 clear HO h3 h2 h1 hb3 hb2 k2 k3 HE3 c5 f5 hx hF hG
 have q5 : IntKind.i64.wrap ((m.st.length : Int) - (t : Int)) = (m.st.length : Int) - (t : Int) := w64_small _ (by omega)
 have q7 : IntKind.i64.wrap ((m.st.length : Int) - (t : Int) + (gv : Int)) = (m.st.length : Int) - (t : Int) + (gv : Int) := w64_small _ (by omega)
 go_quiet ((go_at_call 123; exact Calls.quiet_of_same ((HT.out _).mono fun e w' h => ⟨h.1, h.2.symm⟩)))
 have hb5 : (W3.drewN nq).heap[g]? = some (.cells #[.int .i64 (i : Int), .int .i64 arg] 83) := HB.out
 obtain ⟨v0, v1⟩ := cells2_N hb5
 have HM5 := Hid.mk (HM.out.keep ((Kept.refl [] W3).drewN nq))
 have HB5 := Hid.mk hb5
 have HPG := Hid.mk hpg
 clear z0 z1 HB HM c6 hb5
 generalize W3.drewN nq = W4 at *
 by_cases hlt : m.st.length < t
 ·have hI : (m.st.length : Int) - (t : Int) < 0 := by omega
  have HO3 := Hid.mk (HO2.out.trans (if_pos (.inl hlt)))
  clear HO2 HR HA HT
  go_wp2_with (go_at_call 124; refine (HP.out _).mono ?_; rintro e w9 ⟨rfl, rfl⟩)
  go_ret
  exact ⟨_, rfl, by rw [HO3.out]; exact ⟨rfl, _, HM5.out⟩⟩
 ·have hI : ¬ (m.st.length : Int) - (t : Int) < 0 := by omega
  by_cases hgt : 16 < m.st.length - t + gv
  ·have hI2 : (16 : Int) < (m.st.length : Int) - (t : Int) + (gv : Int) := by omega
   have HO3 := Hid.mk (HO2.out.trans (if_pos (.inr hgt)))
   clear HO2 HR HA HT
   go_wp2_with (go_at_call 124; refine (HP.out _).mono ?_; rintro e w9 ⟨rfl, rfl⟩)
   go_ret
   exact ⟨_, rfl, by rw [HO3.out]; exact ⟨rfl, _, HM5.out⟩⟩
  ·have hI2 : ¬ (16 : Int) < (m.st.length : Int) - (t : Int) + (gv : Int) := by omega
   have HO3 := Hid.mk (HO2.out.trans (if_neg (by omega)))
   have HL := Hid.mk hL
   have hG3 : t = 0 ∨ t = 1 ∨ t = 2 := by omega
   clear HO2
   rcases hG3 with rfl | rfl | rfl
   ·have HO4 := Hid.mk (HO3.out.trans ((if_neg (by omega)).trans (if_neg (by omega))))
    by_cases hg0 : 0 < gv
    ·have hgI : (0 : Int) < (gv : Int) := by omega
     have HC := Hid.mk (HR.out hg0 W4 _ 0 0 HM5.out (by show m.st.length + gv ≤ 16; omega))
     clear HR HA HO3
     go_wp2_with (first | (go_at_call 124; refine (HP.out _).mono ?_; rintro e w9 ⟨rfl, rfl⟩) | (go_at_call 123; refine (HT.out _).mono ?_; rintro e w9 ⟨rfl, rfl⟩) | (go_at_call 126; refine HC.out.mono ?_; rintro e w9 ⟨rfl, m2, r1, r2⟩))
     go_ret
     exact ⟨_, rfl, by rw [HO4.out, r1]; exact ⟨rfl, r2⟩⟩
    ·have hgI : ¬ (0 : Int) < (gv : Int) := by omega
     have HC := Hid.mk (HA.out (by omega) W4 _ 0 0 HM5.out HL.out)
     clear HR HA HO3
     go_wp2_with (first | (go_at_call 124; refine (HP.out _).mono ?_; rintro e w9 ⟨rfl, rfl⟩) | (go_at_call 123; refine (HT.out _).mono ?_; rintro e w9 ⟨rfl, rfl⟩) | (go_at_call 127; refine HC.out.mono ?_; rintro e w9 ⟨cc, rfl, r2⟩))
     go_ret
     exact ⟨_, rfl, by rw [HO4.out]; exact r2⟩
   ·have HO4 := Hid.mk (HO3.out.trans ((if_neg (by omega)).trans (if_pos rfl)))
    have hne : m.st ≠ [] := fun e => hlt (by rw [e]; simp)
    have HPO := Hid.mk (pop30 HM5.out hne)
    have hdl : m.st.dropLast.length = m.st.length - 1 := by simp
    have HDL := Hid.mk hdl
    clear hdl hne
    dsimp only at HPO
    generalize m.st.getLastD 0 = x at *
    by_cases hg0 : 0 < gv
    ·have hgI : (0 : Int) < (gv : Int) := by omega
     go_wp2_with (first | (go_at_call 124; refine (HP.out _).mono ?_; rintro e w9 ⟨rfl, rfl⟩) | (go_at_call 123; refine (HT.out _).mono ?_; rintro e w9 ⟨rfl, rfl⟩) | (go_at_call 125; refine HPO.out.mono ?_; rintro e w5 ⟨rfl, h5, k5⟩; have hb6 := k5.keeps HB5.out (by simpa using Ne.symm HPG.out); have t0 := (cells2_N hb6).1; have t1 := (cells2_N hb6).2; clear hb6) | (go_at_call 126; refine (HR.out hg0 w5 _ x 0 h5 (by show m.st.dropLast.length + gv ≤ 16; rw [HDL.out]; omega)).mono ?_; rintro e w9 ⟨rfl, m2, r1, r2⟩))
     go_ret
     exact ⟨_, rfl, by rw [HO4.out, r1]; exact ⟨rfl, r2⟩⟩
    ·have hgI : ¬ (0 : Int) < (gv : Int) := by omega
     go_wp2_with (first | (go_at_call 124; refine (HP.out _).mono ?_; rintro e w9 ⟨rfl, rfl⟩) | (go_at_call 123; refine (HT.out _).mono ?_; rintro e w9 ⟨rfl, rfl⟩) | (go_at_call 125; refine HPO.out.mono ?_; rintro e w5 ⟨rfl, h5, k5⟩; have hb6 := k5.keeps HB5.out (by simpa using Ne.symm HPG.out); have t0 := (cells2_N hb6).1; have t1 := (cells2_N hb6).2; clear hb6) | (go_at_call 127; refine (HA.out (by omega) w5 _ x 0 h5 HL.out).mono ?_; rintro e w9 ⟨cc, rfl, r2⟩))
     go_ret
     exact ⟨_, rfl, by rw [HO4.out]; exact r2⟩
   ·have HO4 := Hid.mk (HO3.out.trans (if_pos rfl))
    have hne : m.st ≠ [] := fun e => hlt (by rw [e]; simp)
    have hdl : m.st.dropLast.length = m.st.length - 1 := by simp
    have hne2 : m.st.dropLast ≠ [] := fun e => by rw [e] at hdl; simp at hdl; omega
    have hdl2 : m.st.dropLast.dropLast.length = m.st.length - 2 := by simp; omega
    have HPO := Hid.mk (pop30 HM5.out hne)
    have HP2 : Hid (∀ W, MSt B W p { m with at_ := m.at_ + 1, st := m.st.dropLast } (k + 1) → Calls Tryz.prog 125 #[.pointer (some ⟨p, 0, none⟩)] W fun e w' => e = .returned (.int .i64 (m.st.dropLast.getLastD 0)) ∧ MSt B w' p { m with at_ := m.at_ + 1, st := m.st.dropLast.dropLast } (k + 1) ∧ Kept [p] W w') := fun W hW => pop30 hW hne2
    have HDL := Hid.mk hdl2
    clear hdl hne hdl2 hne2
    dsimp only at HPO
    generalize m.st.getLastD 0 = y at *
    generalize m.st.dropLast.getLastD 0 = x at *
    by_cases hg0 : 0 < gv
    ·have hgI : (0 : Int) < (gv : Int) := by omega
     go_wp2_with (first | (go_at_call 124; refine (HP.out _).mono ?_; rintro e w9 ⟨rfl, rfl⟩) | (go_at_call 123; refine (HT.out _).mono ?_; rintro e w9 ⟨rfl, rfl⟩) | (go_at_call 125; with_reducible refine HPO.out.mono ?_; rintro e w5 ⟨rfl, h5, k5⟩) | (go_at_call 125; refine (HP2.out w5 h5).mono ?_; rintro e w6 ⟨rfl, h6, k6⟩; have hb6 := k6.keeps (k5.keeps HB5.out (by simpa using Ne.symm HPG.out)) (by simpa using Ne.symm HPG.out); have t0 := (cells2_N hb6).1; have t1 := (cells2_N hb6).2; clear hb6) | (go_at_call 126; refine (HR.out hg0 w6 _ x y h6 (by show m.st.dropLast.dropLast.length + gv ≤ 16; rw [HDL.out]; omega)).mono ?_; rintro e w9 ⟨rfl, m2, r1, r2⟩))
     go_ret
     exact ⟨_, rfl, by rw [HO4.out, r1]; exact ⟨rfl, r2⟩⟩
    ·have hgI : ¬ (0 : Int) < (gv : Int) := by omega
     go_wp2_with (first | (go_at_call 124; refine (HP.out _).mono ?_; rintro e w9 ⟨rfl, rfl⟩) | (go_at_call 123; refine (HT.out _).mono ?_; rintro e w9 ⟨rfl, rfl⟩) | (go_at_call 125; with_reducible refine HPO.out.mono ?_; rintro e w5 ⟨rfl, h5, k5⟩) | (go_at_call 125; refine (HP2.out w5 h5).mono ?_; rintro e w6 ⟨rfl, h6, k6⟩; have hb6 := k6.keeps (k5.keeps HB5.out (by simpa using Ne.symm HPG.out)) (by simpa using Ne.symm HPG.out); have t0 := (cells2_N hb6).1; have t1 := (cells2_N hb6).2; clear hb6) | (go_at_call 127; refine (HA.out (by omega) w6 _ x y h6 HL.out).mono ?_; rintro e w9 ⟨cc, rfl, r2⟩))
     go_ret
     exact ⟨_, rfl, by rw [HO4.out]; exact r2⟩
end
theorem wpList_load_run_N {P : Program} {w : World} {ops : Array Oper} {rest : List Oper} {o : Oper} {a : Act} {Q : Exit → Act → World → Prop} (t : TypeId) (x : Operand)
  (hop : o.op = .load t x) (hg : o.guard = none) (vx : Value) (hx : a.eval x = vx) (v : Value) (hrun : (Instr.loadAt t vx).run P w = .ok v w)
  (h : wpList P ops Q rest (a.put o.dst v) w) : wpList P ops Q (o :: rest) a w := by
 refine wpList_plain hg fun K hK' => ?_
 unfold Oper.wp execOp
 simp only [hop, hx, Sem.run_bind, Sem.run_pure, Result.andThen_ok, hrun]
 exact hK' _ _ h
theorem wpList_alloc_run_N {P : Program} {w : World} {ops : Array Oper} {rest : List Oper} {o : Oper} {a : Act} {Q : Exit → Act → World → Prop} (t : TypeId)
  (hop : o.op = .alloc t) (hg : o.guard = none) (v : Value) (w' : World) (hrun : (Instr.alloc t true (.tuple #[])).run P w = .ok v w')
  (h : wpList P ops Q rest (a.put o.dst v) w') : wpList P ops Q (o :: rest) a w := by
 refine wpList_plain hg fun K hK' => ?_
 unfold Oper.wp execOp
 simp only [hop, Sem.run_bind, Sem.run_pure, Result.andThen_ok, hrun]
 exact hK' _ _ h
theorem wpList_store_run_N {P : Program} {w : World} {ops : Array Oper} {rest : List Oper} {o : Oper} {a : Act} {Q : Exit → Act → World → Prop} (t : TypeId) (x y : Operand)
  (hop : o.op = .store t x y) (hg : o.guard = none) (vx vy : Value) (hx : a.eval x = vx) (hy : a.eval y = vy) (w' : World) (hrun : (Instr.storeAt t vx vy).run P w = .ok () w')
  (h : wpList P ops Q rest (a.put o.dst undef) w') : wpList P ops Q (o :: rest) a w := by
 refine wpList_plain hg fun K hK' => ?_
 unfold Oper.wp execOp
 simp only [hop, hx, hy, Sem.run_bind, Sem.run_pure, Result.andThen_ok, hrun]
 exact hK' _ _ h
section
variable {P : Program} {w : World} {g : Nat} {t : TypeId} {L X : List Value}
theorem store_whole (hb : w.heap[g]? = some (.cells L.toArray t (0, 0))) (hl : X.length = L.length) (hi : (P.info? t).map (·.size) = some X.length) (h1 : ∀ v ∈ X, v.oneCell' = true) : ∃ W, (Instr.storeAt t (.pointer (some ⟨g, 0, none⟩)) (.agg X.toArray)).run P w = .ok () W ∧ W.heap[g]? = some (.cells X.toArray t (0, 0)) ∧ Kept [g] w W := by
 refine ⟨_, run_storeAt_mid w g 0 t X.toArray (fun j hj => ?_) (by rw [List.size_toArray]; exact hi) (all_oneCell_toArray h1), ?_, Kept.setCells (.inl (by simp)) _ (Kept.refl [g] w) 0⟩
 ·rw [List.size_toArray, hl] at hj
  refine ⟨?_, by simp [World.frozen?, hb]⟩
  rw [Nat.zero_add, cell_list_N hb (List.getElem?_eq_getElem hj)]
  rfl
 ·rw [setCells_list _ hb, sets_eq _ _ _ (by simp; omega)]
  simp [hl]
theorem load_mid (o : Nat) {pre : List Value} (hb : w.heap[g]? = some (.cells (pre ++ X).toArray t (0, 0))) (ho : pre.length = o) (ty : TypeId) (d : TypeDesc) (hd : (match d with | .struct _ | .array _ _ => true | _ => false) = true) (hu : P.underlying ty = some d) (hi : (P.info? ty).map (·.size) = some X.length) : (Instr.loadAt ty (.pointer (some ⟨g, o, none⟩))).run P w = .ok (.agg X.toArray) w := by
 subst ho
 refine run_loadAt_mid w g pre.length ty X d (fun j v hv => ?_) hu hd hi
 exact cell_list_N hb (by rw [List.getElem?_append_right (by omega), Nat.add_sub_cancel_left]; exact hv)
end
theorem box4 (w : World) (o0 o1 o2 o3 : Obj) : ∃ W, (((w.alloc o0).alloc o1).alloc o2).alloc o3 = W ∧ Kept [] w W ∧ W.heap.size = w.heap.size + 4 ∧ W.heap[w.heap.size]? = some o0 ∧ W.heap[w.heap.size + 1]? = some o1 ∧ W.heap[w.heap.size + 1 + 1]? = some o2 ∧ W.heap[w.heap.size + 1 + 1 + 1]? = some o3 := by
 refine ⟨_, rfl, ((((Kept.refl [] w).alloc _).alloc _).alloc _).alloc _, by simp, ?_, ?_, ?_, ?_⟩
 ·rw [Below.heap_alloc _ _ _ (by simp <;> omega), Below.heap_alloc _ _ _ (by simp <;> omega), Below.heap_alloc _ _ _ (by simp)]; exact heap_alloc_new w _
 ·rw [Below.heap_alloc _ _ _ (by simp <;> omega), Below.heap_alloc _ _ _ (by simp)]
  have := heap_alloc_new (w.alloc o0) o1
  simpa using this
 ·rw [Below.heap_alloc _ _ _ (by simp)]
  have := heap_alloc_new ((w.alloc o0).alloc o1) o2
  simpa using this
 ·have := heap_alloc_new (((w.alloc o0).alloc o1).alloc o2) o3
  simpa using this
theorem cellsR_one {reg : List Int} {ev sn tm : Value} {k : Nat} (h1 : ev.oneCell' = true) (h2 : sn.oneCell' = true) (h3 : tm.oneCell' = true) : ∀ v ∈ cellsR reg ev sn tm k, v.oneCell' = true := fun v hv => by
 rcases List.mem_append.1 hv with hv | hv
 ·exact BI_one_N _ v hv
 ·simp at hv
  rcases hv with rfl | rfl | rfl | rfl
  ·exact h1
  ·exact h2
  ·exact h3
  ·rfl
def natAt (w : World) (p o : Nat) : Nat := match w.cell? ⟨p, o, none⟩ with
 | some (.int _ z) => z.toNat
 | _ => 0
theorem natAt_eq {w : World} {p o k : Nat} (h : w.cell? ⟨p, o, none⟩ = some (.int .i64 (k : Int))) : natAt w p o = k := by
 unfold natAt
 rw [h]
 exact Int.toNat_natCast k
end Go.Proofs.YtngnenbidpojeaaGreatDoor
