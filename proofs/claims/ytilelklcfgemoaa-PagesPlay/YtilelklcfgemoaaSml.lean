/-
  The pages' small functions: blocksFor, TextBlocks, place, isLast, follows.
-/
import Derived.Test.YtilelklcfgemoaaMp
import Derived.Lib.MinMax
namespace Go.Proofs.Ytilelklcfgemoaa
open Go.RowKit
set_option linter.unusedVariables false

theorem Hid.mk {P : Prop} (h : P) : Hid P := h
theorem bks_quo (n : Nat) : max (((n : Int) + 237) / 238) 1 = (bks n : Int) := by
  unfold bks
  omega
theorem bks_quo2 (n : Nat) : max (((n : Int) + 238 - 1) / 238) 1 = (bks n : Int) := by
  unfold bks
  omega
set_option maxRecDepth 100000 in
theorem bks_any (n : Nat) (h : n ≤ 4294967296) (w : World) : Calls Try.prog 34 #[.int .i64 (n : Int)] w fun e w' => e = .returned (.int .i64 (bks n : Int)) ∧ w = w' := by
  go_enter Try.func34, Try.ntmps34
  go_wp2
  go_ret
  exact ⟨ret_int (bks_quo2 n), rfl⟩
set_option maxRecDepth 100000 in
theorem tb_any (n : Nat) (h : n ≤ 4294967296) (w : World) : Calls Try.prog 13 #[.int .i64 (n : Int)] w fun e w' => e = .returned (.int .i64 (bks n : Int)) ∧ w = w' := by
  go_enter Try.func13, Try.ntmps13
  go_wp2
  go_ret
  exact ⟨ret_int (bks_quo n), rfl⟩
theorem or_plc (st x : Nat) (hs : st < 65536) (hx : x < 65536) : bits .or .u32 ((st : Int) * 65536) (x : Int) = (plc st x : Int) := by
  have e : (st : Int) * 65536 = ((2 ^ 16 * st : Nat) : Int) := by omega
  rw [e, u32_or_nat _ _ (by omega) (by omega), ← Nat.two_pow_add_eq_or_of_lt (i := 16) (by omega) st]
  unfold plc
  omega
set_option maxRecDepth 100000 in
theorem place_any (nm i : Nat) (w : World) (hs : nm < 65536) (hi : i < 65536) :
    Calls Try.prog 60 #[.int .i64 (nm : Int), .int .i64 (i : Int)] w fun e w' => e = .returned (.int .u32 (plc nm i : Int)) ∧ w = w' := by
  have e1 : IntKind.u32.wrap (nm : Int) = (nm : Int) := by rw [IntKind.wrap_u32]; omega
  have e2 : IntKind.u32.wrap (i : Int) = (i : Int) := by rw [IntKind.wrap_u32]; omega
  have e3 := or_plc nm i hs hi
  go_enter Try.func60, Try.ntmps60
  go_wp2
  go_ret
  exact ⟨rfl, rfl⟩
/-- A part as a value. -/
abbrev ptV (t : Bool) (n nx : Nat) (v : Value) : Value := .agg #[.bool t, .int .i64 (n : Int), .int .i64 (nx : Int), v]
theorem kept_alloc (w : World) (o : Obj) : Kept [] w (w.alloc o) := (Kept.refl [] w).alloc o
set_option maxRecDepth 100000 in
theorem isLast_any (t : Bool) (n nx : Nat) (a : Option Addr) (k c : Nat) (w : World) : Calls Try.prog 52 #[ptV t n nx (.slice a k c)] w fun e w' => e = .returned (.bool (decide (n ≤ 238))) ∧ Kept [] w w' := by
  have e1 : decide ((n : Int) ≤ 238) = decide (n ≤ 238) := by congr 1; apply propext; omega
  go_enter Try.func52, Try.ntmps52
  go_wp2
  go_ret
  exact ⟨rfl, kept_alloc _ _⟩
set_option maxRecDepth 100000 in
theorem follows_yes (t : Bool) (n nx n2 nx2 : Nat) (a a2 : Option Addr) (k c k2 c2 : Nat) (w : World) (h : n + 238 = n2) (hn : n2 ≤ 1000000) : Calls Try.prog 51 #[ptV t n nx (.slice a k c), ptV t n2 nx2 (.slice a2 k2 c2)] w fun e w' => e = .returned (.bool true) ∧ Kept [] w w' := by
  have e1 : ((n : Int) == (n2 : Int) - 238) = true := by simp; omega
  go_enter Try.func51, Try.ntmps51
  go_wp2
  go_ret
  exact ⟨rfl, (kept_alloc _ _).trans (kept_alloc _ _) (by simp)⟩
end Go.Proofs.Ytilelklcfgemoaa
