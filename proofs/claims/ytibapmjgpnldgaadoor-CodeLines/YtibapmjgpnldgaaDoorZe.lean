/-
  Programs, without memory: what Go's own ParseInt, Cut and IndexByte answer, in the words of the lines.
-/
import Derived.Test.YtibapmjgpnldgaaDoorZx
import Derived.Lib.ParseIntBTie
import Derived.Lib.CutLaws
namespace Go.Proofs.YtibapmjgpnldgaaDoor
open Go.Lib (decDigits itoa)
set_option linter.unusedVariables false
theorem parseM_num : ∀ (s : List UInt8) (n m : Nat), numG s n = some m → Lib.parseUintM 18446744073709551615 n s = .ok m
  | [], n, m, h => by simp only [numG, Option.some.injEq] at h; rw [Lib.parseUintM, h]
  | c :: s, n, m, h => by
    rw [numG] at h
    split at h
    · cases h
    · rename_i hno
      have hc : isDig c = true := by
        cases hh : isDig c with
        | true => rfl
        | false => exact absurd (.inl hh) hno
      simp only [isDig, Bool.and_eq_true, decide_eq_true_eq] at hc
      have hle : ¬ 18446744073709551615 < 10 * n + (c.toNat - 48) := fun h => hno (.inr h)
      rw [Lib.parseUintM, if_pos hc, if_neg (by omega), if_neg (by omega), Nat.mul_comm n 10]
      exact parseM_num s _ m h
theorem parseB_num {s : List UInt8} {n : Nat} (h : numD s = some n) : Lib.parseUintB 64 s = .ok n := by
  unfold numD at h
  split at h
  · cases h
  · rename_i hno
    unfold Lib.parseUintB
    rw [if_neg (fun e => hno (.inl e))]
    exact parseM_num s 0 n h
theorem numD_head {s : List UInt8} {n : Nat} (h : numD s = some n) : s ≠ [] ∧ s.head? ≠ some 43 ∧ s.head? ≠ some 45 := by
  unfold numD at h
  split at h
  · cases h
  · rename_i hno
    cases s with
    | nil => exact absurd (.inl rfl) hno
    | cons c s =>
      rw [numG] at h
      split at h
      · cases h
      · rename_i h0
        have hc : isDig c = true := by
          cases hh : isDig c with
          | true => rfl
          | false => exact absurd (.inl hh) h0
        simp only [isDig, Bool.and_eq_true, decide_eq_true_eq] at hc
        refine ⟨by simp, fun e => ?_, fun e => ?_⟩
        · simp only [List.head?_cons, Option.some.injEq] at e; subst e; exact absurd hc.1 (by decide)
        · simp only [List.head?_cons, Option.some.injEq] at e; subst e; exact absurd hc.1 (by decide)
theorem toNat_ne {c : UInt8} {k : UInt8} (h : c ≠ k) : c.toNat ≠ k.toNat := fun e => h (UInt8.toNat_inj.1 e)
theorem parse_int {s : List UInt8} {z : Int} (h : intD s = some z) : Lib.parseIntB 64 s = .ok z := by
  unfold intD at h
  split at h
  · rename_i hs
    cases s with
    | nil => simp at hs
    | cons c s =>
      simp only [List.head?_cons, Option.some.injEq] at hs
      subst hs
      rw [List.drop_succ_cons, List.drop_zero] at h
      cases hn : numD s with
      | none => rw [hn] at h; cases h
      | some n =>
        rw [hn] at h
        dsimp only [Option.bind_some] at h
        split at h
        · cases h
        · rename_i hb
          simp only [Option.some.injEq] at h
          subst h
          have e : (45 : UInt8).toNat = 45 := rfl
          have e1 : Lib.parseIntB 64 (45 :: s) = (match Lib.parseUintB 64 s with | .syntax => .syntax | .range => .range | .ok u => if ¬ (45 : UInt8).toNat = 45 ∧ 2 ^ (64 - 1) ≤ u then .range else if (45 : UInt8).toNat = 45 ∧ 2 ^ (64 - 1) < u then .range else .ok (if (45 : UInt8).toNat = 45 then -(u : Int) else u)) := rfl
          rw [e1, parseB_num hn]
          dsimp only
          rw [if_neg (by simp), if_neg (by omega), if_pos e]
  · rename_i hs
    cases hn : numD s with
    | none => rw [hn] at h; cases h
    | some n =>
      rw [hn] at h
      dsimp only [Option.bind_some] at h
      split at h
      · cases h
      · rename_i hb
        simp only [Option.some.injEq] at h
        subst h
        obtain ⟨h1, h2, h3⟩ := numD_head hn
        cases s with
        | nil => exact absurd rfl h1
        | cons c s =>
          have n43 : ¬ c.toNat = 43 := toNat_ne (k := 43) (fun e => h2 (by rw [e]; rfl))
          have n45 : ¬ c.toNat = 45 := toNat_ne (k := 45) (fun e => h3 (by rw [e]; rfl))
          have e1 : Lib.parseIntB 64 (c :: s) = (match Lib.parseUintB 64 (if c.toNat = 43 ∨ c.toNat = 45 then s else c :: s) with | .syntax => .syntax | .range => .range | .ok u => if ¬ c.toNat = 45 ∧ 2 ^ (64 - 1) ≤ u then .range else if c.toNat = 45 ∧ 2 ^ (64 - 1) < u then .range else .ok (if c.toNat = 45 then -(u : Int) else u)) := rfl
          rw [e1, if_neg (by omega), parseB_num hn]
          dsimp only
          rw [if_neg (by omega), if_neg (by omega), if_neg n45]
theorem parse_not {s : List UInt8} (h : ∀ v, Lib.parseIntB 64 s ≠ .ok v) : intD s = none := by
  cases e : intD s with
  | none => rfl
  | some z => exact absurd (parse_int e) (h z)
theorem parse_yes {s : List UInt8} {v : Int} (h : Lib.parseIntB 64 s = .ok v) : -9223372036854775808 ≤ v ∧ v ≤ 9223372036854775807 ∧ (itoa v = s → intD s = some v) ∧ (itoa v ≠ s → intD s = none) := by
  have hb := Lib.parseIntB_bounds h
  have b1 : -9223372036854775808 ≤ v := by have := hb.1; simp at this; omega
  have b2 : v ≤ 9223372036854775807 := by have := hb.2; simp at this; omega
  refine ⟨b1, b2, fun e => by rw [← e]; exact intD_itoa v ⟨b1, b2⟩, fun e => ?_⟩
  cases e2 : intD s with
  | none => rfl
  | some z =>
    have e3 := parse_int e2
    rw [h] at e3
    simp only [Lib.NumEnd.ok.injEq] at e3
    rw [← e3] at e2
    exact absurd (intD_own e2).1.symm e
end Go.Proofs.YtibapmjgpnldgaaDoor
