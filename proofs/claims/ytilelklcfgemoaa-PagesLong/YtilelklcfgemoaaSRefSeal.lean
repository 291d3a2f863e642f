/-
  The document's own Seal, as the statements have it.
-/
import Derived.Test.YtilelklcfgemoaaSApp
namespace Go.Proofs.Ytilelklcfgemoaa
open Go.RowKit
set_option linter.unusedVariables false
/-- How long a slice is. -/
def slen : Value → Nat
  | .slice _ n _ => n
  | _ => 0
def head6 (kind : UInt8) (place n : Nat) : List UInt8 := [kind, UInt8.ofNat (place / 16777216), UInt8.ofNat (place / 65536), UInt8.ofNat (place / 256), UInt8.ofNat place, UInt8.ofNat n]
theorem head6_cells (kind : UInt8) (place n : Nat) (hp : place < 4294967296) (hn : n ≤ 242) : #[Value.int .u8 (kind.toNat : Int), .int .u8 ((place : Int) / 16777216), .int .u8 ((place : Int) / 65536 % 256), .int .u8 ((place : Int) / 256 % 256), .int .u8 ((place : Int) % 256), .int .u8 (n : Int)] = (C8 (head6 kind place n)).toArray := by
  rw [B8_of (place / 16777216) ((place : Int) / 16777216) (by omega), B8_of (place / 65536) ((place : Int) / 65536 % 256) (by omega), B8_of (place / 256) ((place : Int) / 256 % 256) (by omega), B8_of place ((place : Int) % 256) (by omega), B8_of n (n : Int) (by omega)]
  rfl
theorem head6_rest (kind : UInt8) (place : Nat) (p : List UInt8) (hl : p.length ≤ 242) : (head6 kind place p.length ++ p) ++ zs (248 - (head6 kind place p.length ++ p).length) = rest kind place p := by
  have e : 248 - (head6 kind place p.length ++ p).length = 242 - p.length := by rw [List.length_append]; show 248 - (6 + p.length) = _; omega
  rw [e]
  unfold head6 rest zs
  simp [be, Nat.div_div_eq_div_mul]
theorem zs_one (n : Nat) (h : 0 < n) : [0] ++ zs (n - 1) = zs n := by
  obtain ⟨m, rfl⟩ : ∃ m, n = m + 1 := ⟨n - 1, by omega⟩
  rfl
theorem be_get (k : Nat) : ∀ n j, j < k → (be k n)[j]? = some (UInt8.ofNat (n / 256 ^ (k - 1 - j))) := by
  induction k with
  | zero => intro n j h; omega
  | succ k ih =>
    intro n j h
    unfold be
    by_cases hj : j < k
    · rw [List.getElem?_append_left (by rw [be_length]; exact hj), ih _ j hj]
      congr 2
      rw [Nat.div_div_eq_div_mul, show k + 1 - 1 - j = k - 1 - j + 1 by omega, Nat.pow_succ, Nat.mul_comm]
    · have : j = k := by omega
      subst this
      rw [List.getElem?_append_right (by rw [be_length]; exact Nat.le_refl _), be_length]
      simp
theorem be_take (n j : Nat) (h : j < 8) : (be 8 n).take (j + 1) = (be 8 n).take j ++ [UInt8.ofNat (n / 256 ^ (7 - j))] := by
  rw [List.take_add_one, be_get 8 n j h]
  rfl
theorem byte_at (S j : Nat) (h : j < 8) : (S : Int) / 2 ^ (56 - 8 * j) % 256 = ((S / 256 ^ (7 - j) % 256 : Nat) : Int) := by
  have e3 : (256 : Nat) ^ (7 - j) = 2 ^ (56 - 8 * j) := by rw [show (256 : Nat) = 2 ^ 8 from rfl, ← Nat.pow_mul]; congr 1; omega
  have e5 : ((S : Int) / 2 ^ (56 - 8 * j)) = ((S / 2 ^ (56 - 8 * j) : Nat) : Int) := by simp
  rw [e5, e3]
  omega
theorem reads_one (w : World) (z : Int) (n : Nat) (hz : z = ((n % 256 : Nat) : Int)) : Reads (w.alloc (.cells #[.int .u8 z] 5)) (.slice (some ⟨w.heap.size, 0, none⟩) 1 1) [UInt8.ofNat n] :=
  (own_new w [UInt8.ofNat n] _ (by rw [B8_of n z hz]; rfl) 1 rfl (by unfold maxLen; omega)).reads
end Go.Proofs.Ytilelklcfgemoaa
