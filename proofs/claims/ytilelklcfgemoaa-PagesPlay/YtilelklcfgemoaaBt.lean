/-
  Bits of ints, and a part in memory.
-/
import Derived.Test.YtilelklcfgemoaaSml
import Derived.Laws.Rows
namespace Go.Proofs.Ytilelklcfgemoaa
open Go.RowKit
set_option linter.unusedVariables false

theorem ofInt64 (a : Nat) (ha : a < 18446744073709551616) : (BitVec.ofInt 64 (a : Int)).toNat = a := by
  rw [BitVec.ofInt_natCast, BitVec.toNat_ofNat]; exact Nat.mod_eq_of_lt (by omega)
theorem i64_or_nat (a b : Nat) (ha : a < 4611686018427387904) (hb : b < 4611686018427387904) : bits .or .i64 (a : Int) (b : Int) = ((a ||| b : Nat) : Int) := by
  have hx : a ||| b < 2 ^ 62 := Nat.or_lt_two_pow (by omega) (by omega)
  show IntKind.i64.wrap ((BitVec.ofInt 64 (a : Int) ||| BitVec.ofInt 64 (b : Int)).toNat : Int) = _
  rw [BitVec.toNat_or, ofInt64 a (by omega), ofInt64 b (by omega), IntKind.wrap_i64]
  omega
theorem i64_and_nat (a b : Nat) (ha : a < 4611686018427387904) (hb : b < 4611686018427387904) : bits .and .i64 (a : Int) (b : Int) = ((a &&& b : Nat) : Int) := by
  have hx : a &&& b < 2 ^ 62 := Nat.and_lt_two_pow _ (by omega)
  show IntKind.i64.wrap ((BitVec.ofInt 64 (a : Int) &&& BitVec.ofInt 64 (b : Int)).toNat : Int) = _
  rw [BitVec.toNat_and, ofInt64 a (by omega), ofInt64 b (by omega), IntKind.wrap_i64]
  omega
theorem or_head (n : Nat) (h : n < 32768) : bits .or .i64 (n : Int) 32768 = ((n + 32768 : Nat) : Int) := by
  have := i64_or_nat n 32768 (by omega) (by omega)
  rw [Nat.or_comm, show (32768 : Nat) = 2 ^ 15 * 1 from rfl, ← Nat.two_pow_add_eq_or_of_lt (i := 15) (by omega)] at this
  rw [show ((2 ^ 15 * 1 : Nat) : Int) = 32768 from rfl] at this
  rw [this]
  omega
theorem or_two (a b : Nat) (ha : a < 256) (hb : b < 256) : bits .or .i64 ((a : Int) * 256) (b : Int) = ((a * 256 + b : Nat) : Int) := by
  have e : (a : Int) * 256 = ((2 ^ 8 * a : Nat) : Int) := by omega
  rw [e, i64_or_nat _ _ (by omega) (by omega), ← Nat.two_pow_add_eq_or_of_lt (i := 8) (by omega)]
  omega
theorem and_turn (L : Nat) (h : L < 65536) : (bits .and .i64 (L : Int) 32768 != 0) = decide (32768 ≤ L) := by
  have := i64_and_nat L 32768 (by omega) (by omega)
  rw [show ((32768 : Nat) : Int) = 32768 from rfl] at this
  have ht : L.testBit 15 = decide (32768 ≤ L) := by
    rw [Nat.testBit_eq_decide_div_mod_eq]
    congr 1
    apply propext
    rw [show 2 ^ 15 = 32768 from rfl]
    omega
  have hb : (L &&& 2 ^ 15).testBit 15 = decide (32768 ≤ L) := by rw [Nat.testBit_and, ht, Nat.testBit_two_pow_self, Bool.and_true]
  have h0 : (L &&& 2 ^ 15) = 0 ↔ L < 32768 := by
    constructor
    · intro e
      rw [e] at hb
      simp at hb
      exact hb
    · intro hL
      apply Nat.eq_of_testBit_eq
      intro i
      rw [Nat.testBit_and, Nat.testBit_two_pow]
      by_cases hi : 15 = i
      · subst hi
        rw [ht]
        simp
        omega
      · simp [hi]
  rw [show (32768 : Nat) = 2 ^ 15 from rfl] at this
  rw [this]
  by_cases hL : 32768 ≤ L
  · have : ¬ (L &&& 2 ^ 15) = 0 := fun e => by have := h0.1 e; omega
    simp [hL]
    omega
  · rw [h0.2 (by omega)]
    simp [hL]
theorem andNot_turn (L : Nat) (h : L < 65536) : bits .andNot .i64 (L : Int) 32768 = ((L % 32768 : Nat) : Int) := by
  have key : L &&& (18446744073709551615 - 32768) = L % 32768 := by
    have hlt : L &&& (18446744073709551615 - 32768) < 2 ^ 16 := Nat.lt_of_le_of_lt Nat.and_le_left (by omega)
    rw [← Nat.mod_eq_of_lt hlt, Nat.and_mod_two_pow, show (18446744073709551615 - 32768) % 2 ^ 16 = 2 ^ 15 - 1 from rfl, Nat.and_two_pow_sub_one_eq_mod]
    omega
  show IntKind.i64.wrap ((BitVec.ofInt 64 (L : Int) &&& ~~~BitVec.ofInt 64 ((32768 : Nat) : Int)).toNat : Int) = _
  rw [BitVec.toNat_and, BitVec.toNat_not, ofInt64 L (by omega), ofInt64 32768 (by omega), IntKind.wrap_i64, show 2 ^ 64 - 1 - 32768 = 18446744073709551615 - 32768 from rfl, key]
  omega
theorem Sealed.kept {w w' : World} {v : Value} {l : List UInt8} (h : Sealed w w' v l) : Kept [] w w' := by
  obtain ⟨_, _, _, _, _, h⟩ := h; exact h
theorem Sealed.mono {w0 w w' : World} {v : Value} {l : List UInt8} (h : Sealed w w' v l) (k : Kept [] w0 w) : Sealed w0 w' v l := by
  obtain ⟨g, h1, h2, h3, h4, h5⟩ := h
  exact ⟨g, h1, Nat.le_trans k.size h2, h3, h4, k.trans h5 (by simp)⟩
/-- A part, boxed. -/
def Bx (w : World) (b : Nat) (t : Bool) (n nx : Nat) (v : Value) : Prop := w.heap[b]? = some (.cells #[.bool t, .int .i64 (n : Int), .int .i64 (nx : Int), v] 90 (0, 0))
theorem Bx.kept {S : List Nat} {w w' : World} {b n nx : Nat} {t : Bool} {v : Value} (h : Bx w b t n nx v) (k : Kept S w w') (hn : b ∉ S) : Bx w' b t n nx v := k.keeps h hn
theorem Bx.lt {w : World} {b n nx : Nat} {t : Bool} {v : Value} (h : Bx w b t n nx v) : b < w.heap.size := lt_of_block h
theorem Bx.cells {w : World} {b n nx : Nat} {t : Bool} {v : Value} (h : Bx w b t n nx v) : w.cell? ⟨b, 0, none⟩ = some (.bool t) ∧ w.cell? ⟨b, 1, none⟩ = some (.int .i64 (n : Int)) ∧ w.cell? ⟨b, 2, none⟩ = some (.int .i64 (nx : Int)) ∧ w.cell? ⟨b, 3, none⟩ = some v := by
  unfold Bx at h
  simp [World.cell?, h]
theorem Bx.free {w : World} {b n nx : Nat} {t : Bool} {v : Value} (h : Bx w b t n nx v) (j : Nat) : w.frozen? ⟨b, j, none⟩ = false := by
  unfold Bx at h
  simp [World.frozen?, h]
theorem Bx.set {w : World} {b n nx : Nat} {t : Bool} {v : Value} (h : Bx w b t n nx v) (t' : Bool) (n' nx' : Nat) (v' : Value) :
    Bx ((((w.setCell ⟨b, 0, none⟩ (.bool t')).setCell ⟨b, 1, none⟩ (.int .i64 (n' : Int))).setCell ⟨b, 2, none⟩ (.int .i64 (nx' : Int))).setCell ⟨b, 3, none⟩ v') b t' n' nx' v' ∧
    Kept [b] w ((((w.setCell ⟨b, 0, none⟩ (.bool t')).setCell ⟨b, 1, none⟩ (.int .i64 (n' : Int))).setCell ⟨b, 2, none⟩ (.int .i64 (nx' : Int))).setCell ⟨b, 3, none⟩ v') := by
  refine ⟨?_, ((((Kept.refl [b] w).setCell (.inl (by simp)) _).setCell (.inl (by simp)) _).setCell (.inl (by simp)) _).setCell (.inl (by simp)) _⟩
  unfold Bx
  rw [heap_setCell_same _ b 3 _ 90 _ (heap_setCell_same _ b 2 _ 90 _ (heap_setCell_same _ b 1 _ 90 _ (heap_setCell_same w b 0 _ 90 _ h)))]
  rfl
end Go.Proofs.Ytilelklcfgemoaa
