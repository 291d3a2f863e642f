/-
  The log's small functions: blocksFor, UnitBlocks, place.
-/
import Derived.Test.YtdcjaopmfccgbaaLg
namespace Go.Proofs.Ytdcjaopmfccgbaa
open Go.RowKit
set_option linter.unusedVariables false

theorem bks_quo (n : Nat) : ((n : Int) + 232) / 233 = (bks n : Int) := by
  unfold bks
  omega
theorem bks_quo2 (n : Nat) : ((n : Int) + 233 - 1) / 233 = (bks n : Int) := by
  unfold bks
  omega
set_option maxRecDepth 100000 in
theorem bks_any (n : Nat) (h : n ≤ 4294967296) (w : World) : Calls Try.prog 25 #[.int .i64 (n : Int)] w fun e w' => e = .returned (.int .i64 (bks n : Int)) ∧ w = w' := by
  go_enter Try.func25, Try.ntmps25
  go_wp2
  go_ret
  exact ⟨ret_int (bks_quo2 n), rfl⟩
set_option maxRecDepth 100000 in
theorem ub_any (n : Nat) (h : n ≤ 4294967296) (w : World) : Calls Try.prog 15 #[.int .i64 (n : Int)] w fun e w' => e = .returned (.int .i64 (bks n : Int)) ∧ w = w' := by
  go_enter Try.func15, Try.ntmps15
  go_wp2
  go_ret
  exact ⟨ret_int (bks_quo n), rfl⟩
theorem or_plc (st x : Nat) (hs : st < 65536) (hx : x < 65536) : bits .or .u32 ((st : Int) * 65536) (x : Int) = (plc st x : Int) := by
  have e : (st : Int) * 65536 = ((2 ^ 16 * st : Nat) : Int) := by omega
  rw [e, u32_or_nat _ _ (by omega) (by omega), ← Nat.two_pow_add_eq_or_of_lt (i := 16) (by omega) st]
  unfold plc
  omega
set_option maxRecDepth 100000 in
theorem place_any (p fr st i : Nat) (w : World) (h1 : w.cell? ⟨p, 1, none⟩ = some (.int .i64 (fr : Int))) (h5 : w.cell? ⟨p, 5, none⟩ = some (.int .i64 (st : Int))) (hs : st < 65536) (hi : fr + i < 65536) :
    Calls Try.prog 35 #[.pointer (some ⟨p, 0, none⟩), .int .i64 (i : Int)] w fun e w' => e = .returned (.int .u32 (plc st (fr + i) : Int)) ∧ Kept [] w w' := by
  have e1 : IntKind.u32.wrap (st : Int) = (st : Int) := by rw [IntKind.wrap_u32]; omega
  have e2 : IntKind.u32.wrap ((fr : Int) + (i : Int)) = ((fr : Int) + (i : Int)) := by rw [IntKind.wrap_u32]; omega
  have e3 : bits .or .u32 ((st : Int) * 65536) ((fr : Int) + (i : Int)) = (plc st (fr + i) : Int) := by
    have := or_plc st (fr + i) hs hi
    rw [Int.natCast_add] at this
    exact this
  go_enter Try.func35, Try.ntmps35
  go_wp2_with fail
  go_region
  go_wp2
  go_ret
  exact ⟨rfl, (Kept.refl [] w).drew⟩
end Go.Proofs.Ytdcjaopmfccgbaa
