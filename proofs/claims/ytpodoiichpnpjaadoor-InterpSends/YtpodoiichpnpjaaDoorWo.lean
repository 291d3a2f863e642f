/-
  The document's word.
-/
import Derived.Test.YtpodoiichpnpjaaDoorPm
namespace Go.Proofs.YtpodoiichpnpjaaDoor
open Go.RowKit
set_option maxRecDepth 100000
set_option linter.unusedVariables false
section
variable {w : World}
theorem word28_0 : Calls Tryd.prog 34 #[.int .i64 0] w fun e w' => e = .returned (.tuple #[.string ⟨(words.getD 0 default).1.toArray⟩, .int .i64 ((words.getD 0 default).2 : Int)]) ∧ w = w' := by
  go_enter Tryd.func34, Tryd.ntmps34
  go_wp2_with fail
  go_ret2
  exact ⟨rfl, rfl⟩
theorem word28_1 : Calls Tryd.prog 34 #[.int .i64 1] w fun e w' => e = .returned (.tuple #[.string ⟨(words.getD 1 default).1.toArray⟩, .int .i64 ((words.getD 1 default).2 : Int)]) ∧ w = w' := by
  go_enter Tryd.func34, Tryd.ntmps34
  go_wp2_with fail
  go_ret2
  exact ⟨rfl, rfl⟩
theorem word28_2 : Calls Tryd.prog 34 #[.int .i64 2] w fun e w' => e = .returned (.tuple #[.string ⟨(words.getD 2 default).1.toArray⟩, .int .i64 ((words.getD 2 default).2 : Int)]) ∧ w = w' := by
  go_enter Tryd.func34, Tryd.ntmps34
  go_wp2_with fail
  go_ret2
  exact ⟨rfl, rfl⟩
theorem word28_3 : Calls Tryd.prog 34 #[.int .i64 3] w fun e w' => e = .returned (.tuple #[.string ⟨(words.getD 3 default).1.toArray⟩, .int .i64 ((words.getD 3 default).2 : Int)]) ∧ w = w' := by
  go_enter Tryd.func34, Tryd.ntmps34
  go_wp2_with fail
  go_ret2
  exact ⟨rfl, rfl⟩
theorem word28_4 : Calls Tryd.prog 34 #[.int .i64 4] w fun e w' => e = .returned (.tuple #[.string ⟨(words.getD 4 default).1.toArray⟩, .int .i64 ((words.getD 4 default).2 : Int)]) ∧ w = w' := by
  go_enter Tryd.func34, Tryd.ntmps34
  go_wp2_with fail
  go_ret2
  exact ⟨rfl, rfl⟩
theorem word28_5 : Calls Tryd.prog 34 #[.int .i64 5] w fun e w' => e = .returned (.tuple #[.string ⟨(words.getD 5 default).1.toArray⟩, .int .i64 ((words.getD 5 default).2 : Int)]) ∧ w = w' := by
  go_enter Tryd.func34, Tryd.ntmps34
  go_wp2_with fail
  go_ret2
  exact ⟨rfl, rfl⟩
theorem word28_6 : Calls Tryd.prog 34 #[.int .i64 6] w fun e w' => e = .returned (.tuple #[.string ⟨(words.getD 6 default).1.toArray⟩, .int .i64 ((words.getD 6 default).2 : Int)]) ∧ w = w' := by
  go_enter Tryd.func34, Tryd.ntmps34
  go_wp2_with fail
  go_ret2
  exact ⟨rfl, rfl⟩
theorem word28_7 : Calls Tryd.prog 34 #[.int .i64 7] w fun e w' => e = .returned (.tuple #[.string ⟨(words.getD 7 default).1.toArray⟩, .int .i64 ((words.getD 7 default).2 : Int)]) ∧ w = w' := by
  go_enter Tryd.func34, Tryd.ntmps34
  go_wp2_with fail
  go_ret2
  exact ⟨rfl, rfl⟩
theorem word28_8 : Calls Tryd.prog 34 #[.int .i64 8] w fun e w' => e = .returned (.tuple #[.string ⟨(words.getD 8 default).1.toArray⟩, .int .i64 ((words.getD 8 default).2 : Int)]) ∧ w = w' := by
  go_enter Tryd.func34, Tryd.ntmps34
  go_wp2_with fail
  go_ret2
  exact ⟨rfl, rfl⟩
theorem word28_9 : Calls Tryd.prog 34 #[.int .i64 9] w fun e w' => e = .returned (.tuple #[.string ⟨(words.getD 9 default).1.toArray⟩, .int .i64 ((words.getD 9 default).2 : Int)]) ∧ w = w' := by
  go_enter Tryd.func34, Tryd.ntmps34
  go_wp2_with fail
  go_ret2
  exact ⟨rfl, rfl⟩
theorem word28_10 : Calls Tryd.prog 34 #[.int .i64 10] w fun e w' => e = .returned (.tuple #[.string ⟨(words.getD 10 default).1.toArray⟩, .int .i64 ((words.getD 10 default).2 : Int)]) ∧ w = w' := by
  go_enter Tryd.func34, Tryd.ntmps34
  go_wp2_with fail
  go_ret2
  exact ⟨rfl, rfl⟩
theorem word28_11 : Calls Tryd.prog 34 #[.int .i64 11] w fun e w' => e = .returned (.tuple #[.string ⟨(words.getD 11 default).1.toArray⟩, .int .i64 ((words.getD 11 default).2 : Int)]) ∧ w = w' := by
  go_enter Tryd.func34, Tryd.ntmps34
  go_wp2_with fail
  go_ret2
  exact ⟨rfl, rfl⟩
theorem word28_12 : Calls Tryd.prog 34 #[.int .i64 12] w fun e w' => e = .returned (.tuple #[.string ⟨(words.getD 12 default).1.toArray⟩, .int .i64 ((words.getD 12 default).2 : Int)]) ∧ w = w' := by
  go_enter Tryd.func34, Tryd.ntmps34
  go_wp2_with fail
  go_ret2
  exact ⟨rfl, rfl⟩
theorem word28_13 : Calls Tryd.prog 34 #[.int .i64 13] w fun e w' => e = .returned (.tuple #[.string ⟨(words.getD 13 default).1.toArray⟩, .int .i64 ((words.getD 13 default).2 : Int)]) ∧ w = w' := by
  go_enter Tryd.func34, Tryd.ntmps34
  go_wp2_with fail
  go_ret2
  exact ⟨rfl, rfl⟩
theorem word28_14 : Calls Tryd.prog 34 #[.int .i64 14] w fun e w' => e = .returned (.tuple #[.string ⟨(words.getD 14 default).1.toArray⟩, .int .i64 ((words.getD 14 default).2 : Int)]) ∧ w = w' := by
  go_enter Tryd.func34, Tryd.ntmps34
  go_wp2_with fail
  go_ret2
  exact ⟨rfl, rfl⟩
theorem word28_15 : Calls Tryd.prog 34 #[.int .i64 15] w fun e w' => e = .returned (.tuple #[.string ⟨(words.getD 15 default).1.toArray⟩, .int .i64 ((words.getD 15 default).2 : Int)]) ∧ w = w' := by
  go_enter Tryd.func34, Tryd.ntmps34
  go_wp2_with fail
  go_ret2
  exact ⟨rfl, rfl⟩
theorem word28_16 : Calls Tryd.prog 34 #[.int .i64 16] w fun e w' => e = .returned (.tuple #[.string ⟨(words.getD 16 default).1.toArray⟩, .int .i64 ((words.getD 16 default).2 : Int)]) ∧ w = w' := by
  go_enter Tryd.func34, Tryd.ntmps34
  go_wp2_with fail
  go_ret2
  exact ⟨rfl, rfl⟩
theorem word28_17 : Calls Tryd.prog 34 #[.int .i64 17] w fun e w' => e = .returned (.tuple #[.string ⟨(words.getD 17 default).1.toArray⟩, .int .i64 ((words.getD 17 default).2 : Int)]) ∧ w = w' := by
  go_enter Tryd.func34, Tryd.ntmps34
  go_wp2_with fail
  go_ret2
  exact ⟨rfl, rfl⟩
theorem word28_18 : Calls Tryd.prog 34 #[.int .i64 18] w fun e w' => e = .returned (.tuple #[.string ⟨(words.getD 18 default).1.toArray⟩, .int .i64 ((words.getD 18 default).2 : Int)]) ∧ w = w' := by
  go_enter Tryd.func34, Tryd.ntmps34
  go_wp2_with fail
  go_ret2
  exact ⟨rfl, rfl⟩
theorem word28_19 : Calls Tryd.prog 34 #[.int .i64 19] w fun e w' => e = .returned (.tuple #[.string ⟨(words.getD 19 default).1.toArray⟩, .int .i64 ((words.getD 19 default).2 : Int)]) ∧ w = w' := by
  go_enter Tryd.func34, Tryd.ntmps34
  go_wp2_with fail
  go_ret2
  exact ⟨rfl, rfl⟩
theorem word28_20 : Calls Tryd.prog 34 #[.int .i64 20] w fun e w' => e = .returned (.tuple #[.string ⟨(words.getD 20 default).1.toArray⟩, .int .i64 ((words.getD 20 default).2 : Int)]) ∧ w = w' := by
  go_enter Tryd.func34, Tryd.ntmps34
  go_wp2_with fail
  go_ret2
  exact ⟨rfl, rfl⟩
theorem word28_21 : Calls Tryd.prog 34 #[.int .i64 21] w fun e w' => e = .returned (.tuple #[.string ⟨(words.getD 21 default).1.toArray⟩, .int .i64 ((words.getD 21 default).2 : Int)]) ∧ w = w' := by
  go_enter Tryd.func34, Tryd.ntmps34
  go_wp2_with fail
  go_ret2
  exact ⟨rfl, rfl⟩
theorem word28_22 : Calls Tryd.prog 34 #[.int .i64 22] w fun e w' => e = .returned (.tuple #[.string ⟨(words.getD 22 default).1.toArray⟩, .int .i64 ((words.getD 22 default).2 : Int)]) ∧ w = w' := by
  go_enter Tryd.func34, Tryd.ntmps34
  go_wp2_with fail
  go_ret2
  exact ⟨rfl, rfl⟩
theorem word28_23 : Calls Tryd.prog 34 #[.int .i64 23] w fun e w' => e = .returned (.tuple #[.string ⟨(words.getD 23 default).1.toArray⟩, .int .i64 ((words.getD 23 default).2 : Int)]) ∧ w = w' := by
  go_enter Tryd.func34, Tryd.ntmps34
  go_wp2_with fail
  go_ret2
  exact ⟨rfl, rfl⟩
theorem word28 {i k : Nat} {s : List UInt8} (h : words[i]? = some (s, k)) : Calls Tryd.prog 34 #[.int .i64 (i : Int)] w fun e w' => e = .returned (.tuple #[.string ⟨s.toArray⟩, .int .i64 (k : Int)]) ∧ w = w' := by
  have hi : i < 24 := (List.getElem?_eq_some_iff.1 h).1
  have e : words.getD i default = (s, k) := by rw [List.getD_eq_getElem?_getD, h]; rfl
  have key : Calls Tryd.prog 34 #[.int .i64 (i : Int)] w fun e w' => e = .returned (.tuple #[.string ⟨(words.getD i default).1.toArray⟩, .int .i64 ((words.getD i default).2 : Int)]) ∧ w = w' := by
    clear e h
    match i, hi with
    | 0, _ => exact word28_0
    | 1, _ => exact word28_1
    | 2, _ => exact word28_2
    | 3, _ => exact word28_3
    | 4, _ => exact word28_4
    | 5, _ => exact word28_5
    | 6, _ => exact word28_6
    | 7, _ => exact word28_7
    | 8, _ => exact word28_8
    | 9, _ => exact word28_9
    | 10, _ => exact word28_10
    | 11, _ => exact word28_11
    | 12, _ => exact word28_12
    | 13, _ => exact word28_13
    | 14, _ => exact word28_14
    | 15, _ => exact word28_15
    | 16, _ => exact word28_16
    | 17, _ => exact word28_17
    | 18, _ => exact word28_18
    | 19, _ => exact word28_19
    | 20, _ => exact word28_20
    | 21, _ => exact word28_21
    | 22, _ => exact word28_22
    | 23, _ => exact word28_23
    | n + 24, h => exact absurd h (by omega)
  rw [e] at key
  exact key
theorem word28_out {x : Int} (h : x < 0 ∨ 24 ≤ x) : Calls Tryd.prog 34 #[.int .i64 x] w fun e w' => e = .returned (.tuple #[.string ⟨#[]⟩, .int .i64 0]) ∧ w = w' := by
  have t0 : (x == 0) = false := by simp; omega
  have t1 : (x == 1) = false := by simp; omega
  have t2 : (x == 2) = false := by simp; omega
  have t3 : (x == 3) = false := by simp; omega
  have t4 : (x == 4) = false := by simp; omega
  have t5 : (x == 5) = false := by simp; omega
  have t6 : (x == 6) = false := by simp; omega
  have t7 : (x == 7) = false := by simp; omega
  have t8 : (x == 8) = false := by simp; omega
  have t9 : (x == 9) = false := by simp; omega
  have t10 : (x == 10) = false := by simp; omega
  have t11 : (x == 11) = false := by simp; omega
  have t12 : (x == 12) = false := by simp; omega
  have t13 : (x == 13) = false := by simp; omega
  have t14 : (x == 14) = false := by simp; omega
  have t15 : (x == 15) = false := by simp; omega
  have t16 : (x == 16) = false := by simp; omega
  have t17 : (x == 17) = false := by simp; omega
  have t18 : (x == 18) = false := by simp; omega
  have t19 : (x == 19) = false := by simp; omega
  have t20 : (x == 20) = false := by simp; omega
  have t21 : (x == 21) = false := by simp; omega
  have t22 : (x == 22) = false := by simp; omega
  have t23 : (x == 23) = false := by simp; omega
  clear h
  go_enter Tryd.func34, Tryd.ntmps34
  go_wp2_with fail
  go_ret2
  exact ⟨rfl, rfl⟩
end
end Go.Proofs.YtpodoiichpnpjaaDoor
