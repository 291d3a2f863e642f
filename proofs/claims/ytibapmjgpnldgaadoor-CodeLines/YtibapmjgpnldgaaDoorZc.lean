/-
  Programs, without memory: words, digits, lines, texts.
-/
import Derived.Test.YtibapmjgpnldgaaDoorZo
import Derived.Lib.ItoaMem
namespace Go.Proofs.YtibapmjgpnldgaaDoor
open Go.Lib (decDigits itoa)
set_option linter.unusedVariables false
/-- The operations' words, and what their integers are. -/
def words : List (List UInt8 × Nat) := [([104, 97, 108, 116], 0), ([112, 117, 115, 104], 1), ([108, 111, 97, 100], 2), ([115, 116, 111, 114, 101], 2), ([97, 114, 103], 3), ([107, 105, 110, 100], 0), ([97, 100, 100], 0), ([115, 117, 98], 0), ([109, 117, 108], 0), ([108, 101, 115, 115], 0), ([101, 113, 117, 97, 108], 0), ([110, 111, 116], 0), ([100, 117, 112], 0), ([100, 114, 111, 112], 0), ([115, 119, 97, 112], 0), ([106, 117, 109, 112], 4), ([106, 117, 109, 112, 122], 4), ([115, 101, 110, 100], 5), ([114, 101, 112, 108, 121], 0), ([114, 101, 109, 105, 110, 100], 5), ([99, 97, 110, 99, 101, 108], 5), ([102, 97, 105, 108], 0), ([110, 111, 119], 0), ([115, 101, 114, 105, 97, 108], 0)]
theorem words_length : words.length = 24 := rfl
/-- A decimal digit. -/
def isDig (c : UInt8) : Bool := decide (48 ≤ c.toNat) && decide (c.toNat ≤ 57)
/-- The number of decimal digits, behind n. -/
def numG : List UInt8 → Nat → Option Nat
  | [], n => some n
  | c :: s, n => if isDig c = false ∨ 18446744073709551615 < 10 * n + (c.toNat - 48) then none else numG s (10 * n + (c.toNat - 48))
/-- A number without leading noughts. -/
def numD (s : List UInt8) : Option Nat := if s = [] ∨ (1 < s.length ∧ s.head? = some 48) then none else numG s 0
/-- With a - ahead below 0. -/
def intD (s : List UInt8) : Option Int :=
  if s.head? = some 45 then (numD (s.drop 1)).bind fun n => if n = 0 ∨ 9223372036854775808 < n then none else some (-(n : Int))
  else (numD s).bind fun n => if 9223372036854775807 < n then none else some (n : Int)
theorem ofNat_toNat (d : Nat) (h : d < 256) : (UInt8.ofNat d).toNat = d := by simp; omega
theorem numG_append (s t : List UInt8) : ∀ n, numG (s ++ t) n = (numG s n).bind fun m => numG t m := by
  induction s with
  | nil => intro n; rfl
  | cons c s ih =>
    intro n
    rw [List.cons_append, numG, numG]
    split
    · rfl
    · exact ih _
/-- Digits are read as they were printed. -/
theorem numG_dec (u : Nat) : ∀ h : u < 18446744073709551616, numG (decDigits u) 0 = some u := by
  induction u using Nat.strongRecOn with
  | _ u ih =>
    intro h
    rw [decDigits]
    split
    · rename_i hu
      have e := ofNat_toNat (48 + u) (by omega)
      rw [numG, if_neg, numG, e]
      · congr 1; omega
      · rw [e]
        simp only [isDig, e]
        rintro (h1 | h1)
        · simp at h1; omega
        · omega
    · rename_i hu
      have e := ofNat_toNat (48 + u % 10) (by omega)
      rw [numG_append, ih (u / 10) (by omega) (by omega)]
      dsimp only [Option.bind_some]
      rw [numG, if_neg, numG, e]
      · congr 1; omega
      · rw [e]
        simp only [isDig, e]
        rintro (h1 | h1)
        · simp at h1; omega
        · omega
theorem dec_ne (u : Nat) : decDigits u ≠ [] := by
  rw [decDigits]
  split <;> simp
theorem dec_head (u : Nat) : (u < 10 ∧ decDigits u = [UInt8.ofNat (48 + u)]) ∨ (10 ≤ u ∧ 1 < (decDigits u).length ∧ ∃ d t, 1 ≤ d ∧ d ≤ 9 ∧ decDigits u = UInt8.ofNat (48 + d) :: t) := by
  induction u using Nat.strongRecOn with
  | _ u ih =>
    rw [decDigits]
    split
    · rename_i hu; exact .inl ⟨hu, rfl⟩
    · rename_i hu
      refine .inr ⟨by omega, ?_⟩
      rcases ih (u / 10) (by omega) with ⟨h1, h2⟩ | ⟨h1, h2, d, t, h3, h4, h5⟩
      · rw [h2]; exact ⟨by simp, u / 10, [UInt8.ofNat (48 + u % 10)], by omega, by omega, rfl⟩
      · refine ⟨by simp; omega, d, t ++ [UInt8.ofNat (48 + u % 10)], h3, h4, by rw [h5]; rfl⟩
theorem numD_dec (u : Nat) (h : u < 18446744073709551616) : numD (decDigits u) = some u := by
  unfold numD
  rw [if_neg, numG_dec u h]
  rintro (h1 | ⟨h1, h2⟩)
  · exact dec_ne u h1
  · rcases dec_head u with ⟨h3, h4⟩ | ⟨h3, h4, d, t, h5, h6, h7⟩
    · rw [h4] at h1; simp at h1
    · rw [h7] at h2
      simp only [List.head?_cons, Option.some.injEq] at h2
      have := congrArg UInt8.toNat h2
      rw [ofNat_toNat _ (by omega)] at this
      have e : (48 : UInt8).toNat = 48 := rfl
      omega
theorem dig_eq {c : UInt8} (h : isDig c = true) : c = UInt8.ofNat (48 + (c.toNat - 48)) ∧ c.toNat - 48 ≤ 9 := by
  simp only [isDig, Bool.and_eq_true, decide_eq_true_eq] at h
  refine ⟨?_, by omega⟩
  rw [show 48 + (c.toNat - 48) = c.toNat by omega]
  simp
theorem dec_snoc {n d : Nat} (hn : 1 ≤ n) (hd : d ≤ 9) : decDigits (10 * n + d) = decDigits n ++ [UInt8.ofNat (48 + d)] := by
  rw [decDigits, dif_neg (by omega), show (10 * n + d) / 10 = n by omega, show (10 * n + d) % 10 = d by omega]
theorem numG_own (s : List UInt8) : ∀ n m, 1 ≤ n → numG s n = some m → decDigits m = decDigits n ++ s ∧ m < 18446744073709551616 ∨ (s = [] ∧ m = n) := by
  induction s with
  | nil => intro n m _ h; simp only [numG, Option.some.injEq] at h; exact .inr ⟨rfl, h.symm⟩
  | cons c s ih =>
    intro n m hn h
    rw [numG] at h
    split at h
    · cases h
    · rename_i hno
      have hc : isDig c = true := by
        cases hh : isDig c with
        | true => rfl
        | false => exact absurd (.inl hh) hno
      obtain ⟨e, hd⟩ := dig_eq hc
      have hs := dec_snoc hn hd
      have hle : 10 * n + (c.toNat - 48) < 18446744073709551616 := by
        have : ¬ 18446744073709551615 < 10 * n + (c.toNat - 48) := fun h => hno (.inr h)
        omega
      refine .inl ?_
      rcases ih _ m (by omega) h with ⟨h1, h2⟩ | ⟨h1, h2⟩
      · rw [h1, hs, ← e]; exact ⟨by simp, h2⟩
      · rw [h1, h2, hs, ← e]; exact ⟨rfl, hle⟩
/-- Digits that are read are the number's own. -/
theorem numD_own {s : List UInt8} {m : Nat} (h : numD s = some m) : s = decDigits m ∧ m < 18446744073709551616 := by
  unfold numD at h
  split at h
  · cases h
  · rename_i hno
    cases s with
    | nil => exact absurd (.inl rfl) hno
    | cons c s =>
      rw [numG] at h
      split at h
      · cases h
      · rename_i hd0
        have hc : isDig c = true := by
          cases hh : isDig c with
          | true => rfl
          | false => exact absurd (.inl hh) hd0
        obtain ⟨e, hd⟩ := dig_eq hc
        rw [Nat.mul_zero, Nat.zero_add] at h
        have h1 : decDigits (c.toNat - 48) = [c] := by rw [decDigits, dif_pos (by omega), ← e]
        by_cases hz : c.toNat - 48 = 0
        · have hc48 : c = 48 := by rw [e, hz]; rfl
          have hs : s = [] := by
            cases s with
            | nil => rfl
            | cons d t => exact absurd (.inr ⟨by simp, by rw [hc48]; rfl⟩) hno
          subst hs
          simp only [numG, Option.some.injEq] at h
          rw [← h, h1]
          exact ⟨rfl, by omega⟩
        · rcases numG_own s _ m (by omega) h with ⟨h2, h3⟩ | ⟨h2, h3⟩
          · rw [h2, h1]; exact ⟨rfl, h3⟩
          · rw [h2, h3, h1]; exact ⟨rfl, by omega⟩
theorem itoa_head {n : Nat} : (decDigits n).head? ≠ some 45 := by
  intro h
  rcases dec_head n with ⟨h1, h2⟩ | ⟨h1, h2, d, t, h3, h4, h5⟩
  · rw [h2] at h
    simp only [List.head?_cons, Option.some.injEq] at h
    have := congrArg UInt8.toNat h
    rw [ofNat_toNat _ (by omega)] at this
    have e : (45 : UInt8).toNat = 45 := rfl
    omega
  · rw [h5] at h
    simp only [List.head?_cons, Option.some.injEq] at h
    have := congrArg UInt8.toNat h
    rw [ofNat_toNat _ (by omega)] at this
    have e : (45 : UInt8).toNat = 45 := rfl
    omega
theorem intD_itoa (z : Int) (h : I64 z) : intD (itoa z) = some z := by
  unfold I64 at h
  unfold itoa intD
  split
  · rename_i hz
    rw [if_pos (show (45 :: decDigits z.natAbs).head? = some 45 from rfl)]
    show (numD (decDigits z.natAbs)).bind _ = _
    rw [numD_dec _ (by omega)]
    dsimp only [Option.bind_some]
    rw [if_neg (by omega)]
    congr 1
    omega
  · rename_i hz
    rw [if_neg itoa_head, numD_dec _ (by omega)]
    dsimp only [Option.bind_some]
    rw [if_neg (by omega)]
    congr 1
    omega
theorem intD_own {s : List UInt8} {z : Int} (h : intD s = some z) : s = itoa z ∧ I64 z := by
  unfold intD at h
  split at h
  · rename_i hs
    cases s with
    | nil => simp at hs
    | cons c s =>
      simp only [List.head?_cons, Option.some.injEq] at hs
      subst hs
      rw [List.drop_succ_cons, List.drop_zero] at h
      cases hn : numD s with
      | none => rw [hn] at h; cases h
      | some n =>
        rw [hn] at h
        dsimp only [Option.bind_some] at h
        split at h
        · cases h
        · simp only [Option.some.injEq] at h
          subst h
          obtain ⟨e, -⟩ := numD_own hn
          refine ⟨?_, by unfold I64; omega⟩
          unfold itoa
          rw [if_pos (by omega), show (-(n : Int)).natAbs = n by omega, ← e]
  · cases hn : numD s with
    | none => rw [hn] at h; cases h
    | some n =>
      rw [hn] at h
      dsimp only [Option.bind_some] at h
      split at h
      · cases h
      · simp only [Option.some.injEq] at h
        subst h
        obtain ⟨e, -⟩ := numD_own hn
        refine ⟨?_, by unfold I64; omega⟩
        unfold itoa
        rw [if_neg (by omega), show (n : Int).toNat = n by omega, ← e]
/-- A hexadecimal digit. -/
def hexC (d : Nat) : UInt8 := UInt8.ofNat (if d < 10 then 48 + d else 87 + d)
/-- What it is worth. -/
def digC (c : UInt8) : Option Nat := if 48 ≤ c.toNat ∧ c.toNat ≤ 57 then some (c.toNat - 48) else if 97 ≤ c.toNat ∧ c.toNat ≤ 102 then some (c.toNat - 87) else none
def hexS (s : List UInt8) : List UInt8 := s.flatMap fun b => [hexC (b.toNat / 16), hexC (b.toNat % 16)]
def unhexS : List UInt8 → Option (List UInt8)
  | [] => some []
  | [_] => none
  | a :: b :: s => (digC a).bind fun x => (digC b).bind fun y => (unhexS s).map fun r => UInt8.ofNat (16 * x + y) :: r
theorem digC_hex (d : Nat) (h : d < 16) : digC (hexC d) = some d := by
  unfold digC hexC
  split
  · rw [ofNat_toNat _ (by omega), if_pos (by omega)]; congr 1; omega
  · rw [ofNat_toNat _ (by omega), if_neg (by omega), if_pos (by omega)]; congr 1; omega
theorem digC_own {c : UInt8} {d : Nat} (h : digC c = some d) : c = hexC d ∧ d < 16 := by
  unfold digC at h
  unfold hexC
  split at h
  · simp only [Option.some.injEq] at h
    subst h
    refine ⟨?_, by omega⟩
    rw [if_pos (by omega), show 48 + (c.toNat - 48) = c.toNat by omega]
    simp
  · split at h
    · simp only [Option.some.injEq] at h
      subst h
      refine ⟨?_, by omega⟩
      rw [if_neg (by omega), show 87 + (c.toNat - 87) = c.toNat by omega]
      simp
    · cases h
theorem unhex_hex (s : List UInt8) : unhexS (hexS s) = some s := by
  induction s with
  | nil => rfl
  | cons b s ih =>
    have hb := b.toNat_lt
    have e : hexS (b :: s) = hexC (b.toNat / 16) :: hexC (b.toNat % 16) :: hexS s := rfl
    rw [e, unhexS, digC_hex _ (by omega)]
    dsimp only [Option.bind_some]
    rw [digC_hex _ (by omega)]
    dsimp only [Option.bind_some]
    rw [ih, show 16 * (b.toNat / 16) + b.toNat % 16 = b.toNat by omega]
    simp
theorem unhex_own : ∀ {s r : List UInt8}, unhexS s = some r → s = hexS r
  | [], r, h => by simp only [unhexS, Option.some.injEq] at h; subst h; rfl
  | [_], r, h => by simp [unhexS] at h
  | a :: b :: s, r, h => by
    rw [unhexS] at h
    cases h1 : digC a with
    | none => rw [h1] at h; cases h
    | some x =>
      rw [h1] at h
      dsimp only [Option.bind_some] at h
      cases h2 : digC b with
      | none => rw [h2] at h; cases h
      | some y =>
        rw [h2] at h
        dsimp only [Option.bind_some] at h
        cases h3 : unhexS s with
        | none => rw [h3] at h; cases h
        | some q =>
          rw [h3] at h
          simp only [Option.map_some, Option.some.injEq] at h
          subst h
          obtain ⟨e1, l1⟩ := digC_own h1
          obtain ⟨e2, l2⟩ := digC_own h2
          have e : hexS (UInt8.ofNat (16 * x + y) :: q) = hexC ((UInt8.ofNat (16 * x + y)).toNat / 16) :: hexC ((UInt8.ofNat (16 * x + y)).toNat % 16) :: hexS q := rfl
          rw [e, ofNat_toNat _ (by omega), show (16 * x + y) / 16 = x by omega, show (16 * x + y) % 16 = y by omega, ← e1, ← e2, ← unhex_own h3]
end Go.Proofs.YtibapmjgpnldgaaDoor
