/-
  The document's Int.
-/
import Derived.Test.YtibapmjgpnldgaaDoorNu
namespace Go.Proofs.YtibapmjgpnldgaaDoor
open Go.RowKit
set_option maxRecDepth 100000
set_option linter.unusedVariables false
/-- A part of a text. -/
theorem cut_mid (s : List UInt8) (i j : Nat) : (⟨s.toArray⟩ : ByteArray).extract i j = ⟨((s.take j).drop i).toArray⟩ := by
  apply ByteArray.ext
  rw [ByteArray.data_extract]
  simp [List.drop_take]
/-- What Int answers. -/
def IntRt (s : List UInt8) (e : Ending) : Prop := (∃ z : Int, intD s = some z ∧ e = .returned (.tuple #[.int .i64 z, .bool true])) ∨ (intD s = none ∧ e = .returned (.tuple #[.int .i64 0, .bool false]))
section
variable {w : World}
set_option maxHeartbeats 4000000 in
theorem int67 (s : List UInt8) (hs : s.length ≤ 100000) : Calls Tryd.prog 67 #[.string ⟨s.toArray⟩] w fun e w' => IntRt s e ∧ w = w' := by
  have hz : (⟨s.toArray⟩ : ByteArray).size = s.length := by simp [ByteArray.size]
  obtain ⟨R, HR'⟩ : ∃ R, Hid (R = intD s) := ⟨_, rfl⟩
  have HA : Hid (∀ e, IntRt s e ↔ ((∃ z : Int, R = some z ∧ e = .returned (.tuple #[.int .i64 z, .bool true])) ∨ (R = none ∧ e = .returned (.tuple #[.int .i64 0, .bool false])))) := fun e => by unfold IntRt; rw [← HR'.out]
  generalize IntRt s = NA at *
  have HR := Hid.mk HR'.out
  clear HR'
  unfold intD at HR
  by_cases hh : s.head? = some 45
  · obtain ⟨t, rfl⟩ : ∃ t, s = 45 :: t := by
      cases s with
      | nil => simp at hh
      | cons a t => simp at hh; exact ⟨t, by rw [hh]⟩
    have hR : R = (numD t).bind fun n => if n = 0 ∨ 9223372036854775808 < n then none else some (-(n : Int)) := by rw [HR.out, if_pos hh]; rfl
    have HR2 := Hid.mk hR
    have hl0 : (0 : Int) < ((45 :: t).length : Int) := by simp only [List.length_cons]; omega
    have hA0 : ∀ h, (⟨(45 :: t).toArray⟩ : ByteArray)[0]'h = 45 := fun h => byte_at rfl h
    have HC := Hid.mk (number84 (w := w) t (by simp at hs; omega))
    have hcut : (⟨(45 :: t).toArray⟩ : ByteArray).extract 1 (t.length + 1) = ⟨t.toArray⟩ := by rw [cut_mid]; simp
    clear hh hR HR
    go_enter Tryd.func67, Tryd.ntmps67
    go_wp2_with fail
    refine HC.out.mono ?_
    rintro e w1 ⟨hn, rfl⟩
    rcases hn with ⟨n, hn, rfl⟩ | ⟨hn, rfl⟩
    · have HO := Hid.mk (numD_own hn).2
      by_cases h0 : n = 0
      · have HN : Hid (R = none) := by show _ = _; rw [HR2.out, hn]; dsimp only [Option.bind_some]; rw [if_pos (.inl h0)]
        subst h0
        clear HR2 hn
        go_wp2_with fail
        go_ret2
        exact ⟨(HA.out _).2 (.inr ⟨HN.out, rfl⟩), rfl⟩
      · by_cases h1 : 9223372036854775808 < n
        · have HN : Hid (R = none) := by show _ = _; rw [HR2.out, hn]; dsimp only [Option.bind_some]; rw [if_pos (.inr h1)]
          have t0 : ((n : Int) == 0) = false := by simp; omega
          have t1 : (9223372036854775808 : Int) < (n : Int) := by omega
          clear HR2 hn
          go_wp2_with fail
          go_ret2
          exact ⟨(HA.out _).2 (.inr ⟨HN.out, rfl⟩), rfl⟩
        · have HN : Hid (R = some (-(n : Int))) := by show _ = _; rw [HR2.out, hn]; dsimp only [Option.bind_some]; rw [if_neg (by omega)]
          have t0 : ((n : Int) == 0) = false := by simp; omega
          have t1 : ¬ (9223372036854775808 : Int) < (n : Int) := by omega
          have hw1 : IntKind.i64.wrap (IntKind.u64.wrap (-(n : Int))) = -(n : Int) := by rw [IntKind.wrap_u64, IntKind.wrap_i64]; omega
          clear HR2 hn
          go_wp2_with fail
          go_ret2
          exact ⟨(HA.out _).2 (.inl ⟨_, HN.out, by first | rfl | (congr 3; omega)⟩), rfl⟩
    · have HN : Hid (R = none) := by show _ = _; rw [HR2.out, hn]; rfl
      clear HR2 hn
      go_wp2_with fail
      go_ret2
      exact ⟨(HA.out _).2 (.inr ⟨HN.out, rfl⟩), rfl⟩
  · have HR2 : Hid (R = (numD s).bind fun n => if 9223372036854775807 < n then none else some (n : Int)) := by show _ = _; rw [HR.out, if_neg hh]
    have HC := Hid.mk (number84 (w := w) s hs)
    clear HR
    by_cases hl : s = []
    case' pos =>
      subst hl
      clear hh
      go_enter Tryd.func67, Tryd.ntmps67
      go_wp2_with fail
    case' neg =>
      have hl0 : (0 : Int) < (s.length : Int) := by cases s with | nil => exact absurd rfl hl | cons => simp only [List.length_cons]; omega
      have hl1 : 0 < s.length := by omega
      obtain ⟨c0, hc0⟩ : ∃ c, s[0]? = some c := ⟨s[0], by simp⟩
      have hA0 : ∀ h, (⟨s.toArray⟩ : ByteArray)[0]'h = c0 := fun h => byte_at hc0 h
      have hne : ((c0.toNat : Int) == 45) = false := by
        simp only [beq_eq_false_iff_ne, ne_eq]
        intro e
        apply hh
        rw [List.head?_eq_getElem?, hc0]
        exact congrArg some (UInt8.toNat_inj.1 (show c0.toNat = (45 : UInt8).toNat from by simpa using (by omega : c0.toNat = 45)))
      clear hh hc0 hl
      go_enter Tryd.func67, Tryd.ntmps67
      go_wp2_with fail
      clear hne hA0 hl0 hl1
    all_goals
      refine HC.out.mono ?_
      rintro e w1 ⟨hn, rfl⟩
      rcases hn with ⟨n, hn, rfl⟩ | ⟨hn, rfl⟩
      · by_cases h1 : 9223372036854775807 < n
        · have HN : Hid (R = none) := by show _ = _; rw [HR2.out, hn]; dsimp only [Option.bind_some]; rw [if_pos h1]
          have t1 : (9223372036854775807 : Int) < (n : Int) := by omega
          clear HR2 hn
          go_wp2_with fail
          go_ret2
          exact ⟨(HA.out _).2 (.inr ⟨HN.out, rfl⟩), rfl⟩
        · have HN : Hid (R = some (n : Int)) := by show _ = _; rw [HR2.out, hn]; dsimp only [Option.bind_some]; rw [if_neg h1]
          have t1 : ¬ (9223372036854775807 : Int) < (n : Int) := by omega
          have hw1 : IntKind.i64.wrap (n : Int) = (n : Int) := by rw [IntKind.wrap_i64]; omega
          clear HR2 hn
          go_wp2_with fail
          go_ret2
          exact ⟨(HA.out _).2 (.inl ⟨_, HN.out, rfl⟩), rfl⟩
      · have HN : Hid (R = none) := by show _ = _; rw [HR2.out, hn]; rfl
        clear HR2 hn
        go_wp2_with fail
        go_ret2
        exact ⟨(HA.out _).2 (.inr ⟨HN.out, rfl⟩), rfl⟩
end
end Go.Proofs.YtibapmjgpnldgaaDoor
