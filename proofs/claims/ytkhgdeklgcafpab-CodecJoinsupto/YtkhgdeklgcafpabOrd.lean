/-
  The order of numbers' bytes: plain mathematics.
-/
import Derived.Test.YtkhgdeklgcafpabNum
import GoSem.Op.String
namespace Go.Proofs.Ytkhgdeklgcafpab

theorem less_worth (l m : List UInt8) (h : l.length = m.length) : Op.bytesLess l m = decide (worth l < worth m) := by
  induction l generalizing m with
  | nil =>
    cases m with
    | nil => simp [Op.bytesLess, worth]
    | cons b m => simp at h
  | cons a l ih =>
    cases m with
    | nil => simp at h
    | cons b m =>
      have hl : l.length = m.length := by simpa using h
      rw [Op.bytesLess, ih m hl, worth_cons, worth_cons, hl]
      have h1 := worth_lt l
      have h2 := worth_lt m
      rw [hl] at h1
      generalize 256 ^ m.length = P at h1 h2
      generalize worth l = x at h1
      generalize worth m = y at h2
      have hab : (a < b) ↔ a.toNat < b.toNat := UInt8.lt_iff_toNat_lt
      have hab2 : (a = b) ↔ a.toNat = b.toNat := UInt8.toNat_inj.symm
      rw [Bool.eq_iff_iff]
      simp only [Bool.or_eq_true, Bool.and_eq_true, decide_eq_true_eq, beq_iff_eq, hab, hab2]
      generalize a.toNat = u
      generalize b.toNat = v
      constructor
      · rintro (h | ⟨h, h'⟩)
        · have := Nat.mul_le_mul_right P (show u + 1 ≤ v by omega)
          rw [Nat.add_mul] at this
          omega
        · subst h; omega
      · intro h
        rcases Nat.lt_trichotomy u v with h3 | h3 | h3
        · exact .inl h3
        · subst h3; exact .inr ⟨rfl, by omega⟩
        · exfalso
          have := Nat.mul_le_mul_right P (show v + 1 ≤ u by omega)
          rw [Nat.add_mul] at this
          omega

theorem width_mono (a b : Nat) (h : a ≤ b) : width a ≤ width b := by unfold width; (repeat' split) <;> omega

theorem enc_less (a b : Nat) (ha : a < 18446744073709551616) (hb : b < 18446744073709551616) : Op.bytesLess (enc a) (enc b) = decide (a < b) := by
  have hwa := width_pos a
  have hwb := width_pos b
  unfold enc
  by_cases h1 : a ≤ 247
  · by_cases h2 : b ≤ 247
    · rw [if_pos h1, if_pos h2, less_worth [UInt8.ofNat a] [UInt8.ofNat b] rfl]
      have e : ∀ x, x ≤ 247 → worth [UInt8.ofNat x] = x := fun x hx => by
        rw [worth_cons]
        simp only [UInt8.toNat_ofNat', Nat.reducePow, List.length_nil, worth, List.foldl_nil]
        omega
      rw [e a h1, e b h2]
    · rw [if_pos h1, if_neg h2, Op.bytesLess]
      have : UInt8.ofNat a < UInt8.ofNat (247 + width b) := by
        rw [UInt8.lt_iff_toNat_lt]
        simp only [UInt8.toNat_ofNat', Nat.reducePow]
        omega
      have n3 : a < b := by omega
      rw [decide_eq_true this, decide_eq_true n3]
      rfl
  · by_cases h2 : b ≤ 247
    · rw [if_neg h1, if_pos h2, Op.bytesLess]
      have n1 : ¬ UInt8.ofNat (247 + width a) < UInt8.ofNat b := by
        rw [UInt8.lt_iff_toNat_lt]
        simp only [UInt8.toNat_ofNat', Nat.reducePow]
        omega
      have n2 : ¬ UInt8.ofNat (247 + width a) = UInt8.ofNat b := by
        rw [← UInt8.toNat_inj]
        simp only [UInt8.toNat_ofNat', Nat.reducePow]
        omega
      have n3 : ¬ a < b := by omega
      rw [decide_eq_false n1, decide_eq_false n3, beq_eq_false_iff_ne.2 n2]
      rfl
    · rw [if_neg h1, if_neg h2, Op.bytesLess]
      rcases Nat.lt_trichotomy (width a) (width b) with h | h | h
      · have n1 : UInt8.ofNat (247 + width a) < UInt8.ofNat (247 + width b) := by
          rw [UInt8.lt_iff_toNat_lt]
          simp only [UInt8.toNat_ofNat', Nat.reducePow]
          omega
        have n3 : a < b := by
          rcases Nat.lt_or_ge a b with h4 | h4
          · exact h4
          · have := width_mono b a h4; omega
        rw [decide_eq_true n1, decide_eq_true n3]
        rfl
      · rw [h, less_worth _ _ (by rw [digits_length, digits_length]), worth_digits, worth_digits, Nat.mod_eq_of_lt (by rw [← h]; exact width_lt a ha), Nat.mod_eq_of_lt (width_lt b hb)]
        simp
      · have n1 : ¬ UInt8.ofNat (247 + width a) < UInt8.ofNat (247 + width b) := by
          rw [UInt8.lt_iff_toNat_lt]
          simp only [UInt8.toNat_ofNat', Nat.reducePow]
          omega
        have n2 : ¬ UInt8.ofNat (247 + width a) = UInt8.ofNat (247 + width b) := by
          rw [← UInt8.toNat_inj]
          simp only [UInt8.toNat_ofNat', Nat.reducePow]
          omega
        have n3 : ¬ a < b := by
          intro h4
          have := width_mono a b (by omega)
          omega
        rw [decide_eq_false n1, decide_eq_false n3, beq_eq_false_iff_ne.2 n2]
        rfl

theorem enc_len (a b : Nat) (h : a < b) : (enc a).length ≤ (enc b).length := by
  have hwb := width_pos b
  have := width_mono a b (by omega)
  unfold enc
  split <;> split <;> simp [digits_length] <;> omega

end Go.Proofs.Ytkhgdeklgcafpab
