/-
  The plain mathematics of the codec: a number's bytes, and the number that bytes begin with. No program, no memory.
-/
import Derived.KernelRfl
namespace Go.Proofs.YtpodoiichpnpjaaDoor
set_option maxRecDepth 100000
/-- How many bytes a number below 2^64 has. -/
def width (n : Nat) : Nat :=
  if n < 256 then 1 else if n < 65536 then 2 else if n < 16777216 then 3 else if n < 4294967296 then 4 else if n < 1099511627776 then 5 else if n < 281474976710656 then 6 else if n < 72057594037927936 then 7 else 8
theorem width_pos (n : Nat) : 1 ≤ width n ∧ width n ≤ 8 := by unfold width; (repeat' split) <;> omega
/-- The last k bytes of n, the greatest first. -/
def digits : Nat → Nat → List UInt8
  | 0, _ => []
  | k + 1, n => UInt8.ofNat (n / 256 ^ k) :: digits k n
theorem digits_length (k n : Nat) : (digits k n).length = k := by induction k <;> simp_all [digits]
theorem digits_get (k n : Nat) : ∀ i, i < k → (digits k n)[i]? = some (UInt8.ofNat (n / 256 ^ (k - 1 - i))) := by
  induction k with
  | zero => intro i hi; omega
  | succ k ih =>
    intro i hi
    cases i with
    | zero => simp [digits]
    | succ i =>
      simp only [digits, List.getElem?_cons_succ]
      rw [ih i (by omega), show k + 1 - 1 - (i + 1) = k - 1 - i by omega]
theorem digits_take (k n j : Nat) (h1 : 1 ≤ j) (hj : j ≤ k) : (digits k n).take (k - (j - 1)) = (digits k n).take (k - j) ++ [UInt8.ofNat (n / 256 ^ (j - 1))] := by
  rw [show k - (j - 1) = (k - j) + 1 by omega, List.take_add_one, digits_get k n (k - j) (by omega), show k - 1 - (k - j) = j - 1 by omega]
  rfl
theorem pow256 (i : Nat) : (256 : Nat) ^ i = 2 ^ (8 * i) := by rw [show (256 : Nat) = 2 ^ 8 from rfl, ← Nat.pow_mul]
/-- A number's bytes. -/
def enc (n : Nat) : List UInt8 := if n ≤ 247 then [UInt8.ofNat n] else UInt8.ofNat (247 + width n) :: digits (width n) n
theorem enc_length (n : Nat) : 1 ≤ (enc n).length ∧ (enc n).length ≤ 9 := by
  have := width_pos n
  unfold enc; split <;> simp [digits_length]; omega
/-- What bytes are worth, the greatest first. -/
def worth (l : List UInt8) : Nat := l.foldl (fun a b => a * 256 + b.toNat) 0
theorem worth_snoc (l : List UInt8) (b : UInt8) : worth (l ++ [b]) = worth l * 256 + b.toNat := by simp [worth, List.foldl_append]
theorem foldl_worth (l : List UInt8) : ∀ a, l.foldl (fun a b => a * 256 + b.toNat) a = a * 256 ^ l.length + worth l := by
  unfold worth
  induction l with
  | nil => intro a; simp
  | cons b l ih =>
    intro a
    simp only [List.foldl_cons, List.length_cons]
    rw [ih (a * 256 + b.toNat), ih (0 * 256 + b.toNat), Nat.pow_succ, Nat.zero_mul, Nat.zero_add, Nat.add_mul, Nat.mul_assoc, Nat.mul_comm 256]
    omega
theorem worth_cons (b : UInt8) (l : List UInt8) : worth (b :: l) = b.toNat * 256 ^ l.length + worth l := by
  show l.foldl (fun a b => a * 256 + b.toNat) (0 * 256 + b.toNat) = _
  rw [foldl_worth, Nat.zero_mul, Nat.zero_add]
theorem worth_lt (l : List UInt8) : worth l < 256 ^ l.length := by
  induction l with
  | nil => simp [worth]
  | cons b l ih =>
    rw [worth_cons, List.length_cons, Nat.pow_succ]
    have hb := b.toNat_lt
    have : b.toNat * 256 ^ l.length ≤ 255 * 256 ^ l.length := Nat.mul_le_mul_right _ (by omega)
    omega
theorem worth_digits (k n : Nat) : worth (digits k n) = n % 256 ^ k := by
  induction k with
  | zero => simp [digits, worth, Nat.mod_one]
  | succ k ih =>
    rw [digits, worth_cons, digits_length, ih]
    simp only [UInt8.toNat_ofNat', Nat.reducePow]
    rw [Nat.pow_succ, Nat.mod_mul, Nat.mul_comm (n / 256 ^ k % 256)]
    omega
theorem digits_worth (l : List UInt8) (m : Nat) : digits l.length (m * 256 ^ l.length + worth l) = l := by
  induction l generalizing m with
  | nil => rfl
  | cons b l ih =>
    rw [List.length_cons, digits, worth_cons]
    have hw := worth_lt l
    have hp : 0 < 256 ^ l.length := Nat.pos_of_ne_zero (by simp)
    have e : m * 256 ^ (l.length + 1) + (b.toNat * 256 ^ l.length + worth l) = (m * 256 + b.toNat) * 256 ^ l.length + worth l := by
      rw [Nat.pow_succ, Nat.add_mul, Nat.mul_assoc, Nat.mul_comm 256]; omega
    rw [e, ih (m * 256 + b.toNat)]
    congr 1
    rw [Nat.mul_comm (m * 256 + b.toNat), Nat.mul_add_div hp, Nat.div_eq_of_lt hw, Nat.add_zero]
    apply UInt8.toNat_inj.1
    have hb := b.toNat_lt
    simp only [UInt8.toNat_ofNat', Nat.reducePow]
    omega
/-- The number that bytes begin with, and how many of them it takes; 0 bytes: they begin with none. -/
def dec (l : List UInt8) : Nat × Nat :=
  match l with
  | [] => (0, 0)
  | x :: t =>
    if x.toNat ≤ 247 then (x.toNat, 1)
    else if t.length < x.toNat - 247 ∨ (t.head?.map UInt8.toNat).getD 0 = 0 then (0, 0)
    else if worth (t.take (x.toNat - 247)) ≤ 247 then (0, 0)
    else (worth (t.take (x.toNat - 247)), x.toNat - 247 + 1)
theorem dec_le (l : List UInt8) : (dec l).2 ≤ l.length := by
  unfold dec
  split
  · simp
  · repeat' split
    all_goals simp
    all_goals omega
theorem dec_bound (l : List UInt8) : (dec l).1 < 18446744073709551616 := by
  unfold dec
  split
  · simp
  · rename_i x t
    have hx := x.toNat_lt
    repeat' split
    · simp; omega
    · simp
    · simp
    · rename_i h1 h2 h3
      have hw := worth_lt (t.take (x.toNat - 247))
      have hk : (t.take (x.toNat - 247)).length ≤ 8 := by simp; omega
      have := Nat.pow_le_pow_right (n := 256) (by omega) hk
      simp only at hw ⊢
      omega
theorem width_lt (n : Nat) (h : n < 18446744073709551616) : n < 256 ^ width n := by unfold width; (repeat' split) <;> omega
theorem width_ge (n : Nat) (h : 256 ≤ n) : 256 ^ (width n - 1) ≤ n := by unfold width; (repeat' split) <;> simp only [Nat.reducePow, Nat.reduceSub] <;> omega
theorem width_of (n k : Nat) (h1 : 256 ^ k ≤ n) (h2 : n < 256 ^ (k + 1)) (hk : k < 8) : width n = k + 1 := by
  unfold width
  have hc : k = 0 ∨ k = 1 ∨ k = 2 ∨ k = 3 ∨ k = 4 ∨ k = 5 ∨ k = 6 ∨ k = 7 := by omega
  rcases hc with rfl | rfl | rfl | rfl | rfl | rfl | rfl | rfl <;> simp only [Nat.reducePow, Nat.reduceAdd] at h1 h2 ⊢ <;> (repeat' split) <;> omega
/-- What was written is read as it was. -/
theorem dec_enc (n : Nat) (h : n < 18446744073709551616) (rest : List UInt8) : dec (enc n ++ rest) = (n, (enc n).length) := by
  have hw := width_pos n
  unfold enc
  split
  · rename_i h1
    have e : (UInt8.ofNat n).toNat = n := by simp; omega
    simp [dec, e, h1]
  · rename_i h1
    have e : (UInt8.ofNat (247 + width n)).toNat = 247 + width n := by simp; omega
    have hl := digits_length (width n) n
    have ht : (digits (width n) n ++ rest).take (width n) = digits (width n) n := List.take_left' hl
    have hv : worth (digits (width n) n) = n := by rw [worth_digits, Nat.mod_eq_of_lt (width_lt n h)]
    obtain ⟨k, hk⟩ : ∃ k, width n = k + 1 := ⟨width n - 1, by omega⟩
    have hhead : ((digits (width n) n ++ rest).head?.map UInt8.toNat).getD 0 ≠ 0 := by
      rw [hk, digits]
      simp only [List.cons_append, List.head?_cons, Option.map_some, Option.getD_some, UInt8.toNat_ofNat', Nat.reducePow]
      by_cases hn : 256 ≤ n
      · have h2 := width_ge n hn
        have h3 := width_lt n h
        rw [hk] at h2 h3
        simp only [Nat.add_sub_cancel] at h2
        rw [Nat.pow_succ] at h3
        have hp : 0 < 256 ^ k := Nat.pos_of_ne_zero (by simp)
        have h4 := (Nat.le_div_iff_mul_le hp).2 (by simpa using h2 : 1 * 256 ^ k ≤ n)
        have h5 := (Nat.div_lt_iff_lt_mul hp).2 (by rw [Nat.mul_comm]; exact h3 : n < 256 * 256 ^ k)
        omega
      · have : k = 0 := by
          have : width n = 1 := by simp [width]; omega
          omega
        subst this
        simp
        omega
    have h6 : ¬ (digits (width n) n ++ rest).length < 247 + width n - 247 := by simp [hl]
    simp only [List.cons_append, dec, e]
    rw [if_neg (by omega), if_neg (by rintro (h7 | h7); exact h6 h7; exact hhead h7), show 247 + width n - 247 = width n by omega, ht, hv, if_neg h1]
    simp [hl]
/-- Bytes that are read as a number begin with its own. -/
theorem enc_dec (l : List UInt8) (h : (dec l).2 ≠ 0) : enc (dec l).1 = l.take (dec l).2 := by
  match l with
  | [] => simp [dec] at h
  | x :: t =>
    simp only [dec] at h ⊢
    have hx := x.toNat_lt
    by_cases h1 : x.toNat ≤ 247
    · simp [h1, enc]
    · rw [if_neg h1] at h ⊢
      by_cases h2 : t.length < x.toNat - 247 ∨ (t.head?.map UInt8.toNat).getD 0 = 0
      · simp [h2] at h
      · rw [if_neg h2] at h ⊢
        by_cases h3 : worth (t.take (x.toNat - 247)) ≤ 247
        · simp [h3] at h
        · rw [if_neg h3] at h ⊢
          obtain ⟨k, hk⟩ : ∃ k, x.toNat - 247 = k + 1 := ⟨x.toNat - 248, by omega⟩
          have hlen : (t.take (x.toNat - 247)).length = k + 1 := by simp; omega
          have hlt := worth_lt (t.take (x.toNat - 247))
          rw [hlen] at hlt
          cases t with
          | nil => simp at h2
          | cons y t' =>
            have hy : y.toNat ≠ 0 := by
              intro hy; exact h2 (Or.inr (by simp [hy]))
            have hge : 256 ^ k ≤ worth ((y :: t').take (x.toNat - 247)) := by
              rw [hk, List.take_succ_cons, worth_cons]
              have : (t'.take k).length = k := by rw [hk] at hlen; simpa using hlen
              rw [this]
              have : 1 * 256 ^ k ≤ y.toNat * 256 ^ k := Nat.mul_le_mul_right _ (by omega)
              omega
            have hwd := width_of _ k hge hlt (by omega)
            simp only [enc, h3, if_false, hwd]
            have hd := digits_worth ((y :: t').take (x.toNat - 247)) 0
            rw [hlen, Nat.zero_mul, Nat.zero_add] at hd
            rw [hd]
            have hx1 : UInt8.ofNat (247 + (k + 1)) = x := by
              apply UInt8.toNat_inj.1
              simp only [UInt8.toNat_ofNat', Nat.reducePow]
              omega
            rw [hx1, List.take_succ_cons]
/-- An integer's number. -/
def fold (z : Int) : Nat := if z < 0 then (-2 * z - 1).toNat else (2 * z).toNat
/-- A number's integer. -/
def unfold (n : Nat) : Int := if n % 2 = 1 then -((n / 2 : Nat) : Int) - 1 else ((n / 2 : Nat) : Int)
theorem unfold_fold (z : Int) : unfold (fold z) = z := by unfold fold YtpodoiichpnpjaaDoor.unfold; split <;> split <;> omega
theorem fold_unfold (n : Nat) : fold (unfold n) = n := by unfold fold YtpodoiichpnpjaaDoor.unfold; split <;> split <;> omega
theorem fold_lt (z : Int) (h1 : -9223372036854775808 ≤ z) (h2 : z ≤ 9223372036854775807) : fold z < 18446744073709551616 := by unfold fold; split <;> omega
theorem unfold_bound (n : Nat) (h : n < 18446744073709551616) : -9223372036854775808 ≤ unfold n ∧ unfold n ≤ 9223372036854775807 := by
  unfold YtpodoiichpnpjaaDoor.unfold; split <;> omega
end Go.Proofs.YtpodoiichpnpjaaDoor
