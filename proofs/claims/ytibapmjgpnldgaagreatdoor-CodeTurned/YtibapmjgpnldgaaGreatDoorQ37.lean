import Derived.Test.YtibapmjgpnldgaaGreatDoorQ20
/-
  The document's Number.
-/
namespace Go.Proofs.YtibapmjgpnldgaaGreatDoor
open Go.RowKit
set_option maxRecDepth 100000
set_option linter.unusedVariables false
/-- What Number answers. -/
def NumAt (s : List UInt8) (e : Ending) : Prop := (∃ n : Nat, numD s = some n ∧ e = .returned (.tuple #[.int .u64 (n : Int), .bool true])) ∨ (numD s = none ∧ e = .returned (.tuple #[.int .u64 0, .bool false]))
section
variable {w : World}
set_option maxHeartbeats 4000000 in
theorem number84 (s : List UInt8) (hs : s.length ≤ 100000) : Calls Tryz.prog 78 #[.string ⟨s.toArray⟩] w fun e w' => NumAt s e ∧ w = w' := by
  have hz : (⟨s.toArray⟩ : ByteArray).size = s.length := by simp [ByteArray.size]
  obtain ⟨R, HR'⟩ : ∃ R, Hid (R = numD s) := ⟨_, rfl⟩
  have HA : Hid (∀ e, NumAt s e ↔ ((∃ n : Nat, R = some n ∧ e = .returned (.tuple #[.int .u64 (n : Int), .bool true])) ∨ (R = none ∧ e = .returned (.tuple #[.int .u64 0, .bool false])))) := fun e => by unfold NumAt; rw [← HR'.out]
  generalize NumAt s = NA at *
  have HR := Hid.mk HR'.out
  clear HR'
  unfold numD at HR
  by_cases h0 : s = []
  · have HN : Hid (R = none) := by show _ = _; rw [HR.out, if_pos (.inl h0)]
    subst h0
    clear HR
    go_enter Tryz.func78, Tryz.ntmps78
    go_wp2_with fail
    go_ret2
    exact ⟨(HA.out _).2 (.inr ⟨HN.out, rfl⟩), rfl⟩
  have hl0 : 0 < s.length := by cases s with | nil => exact absurd rfl h0 | cons => simp
  have t0 : ((s.length : Int) == 0) = false := by simp; omega
  obtain ⟨c0, hc0⟩ : ∃ c, s[0]? = some c := ⟨s[0], by simp⟩
  have hA0 : ∀ h, (⟨s.toArray⟩ : ByteArray)[0]'h = c0 := fun h => byte_at hc0 h
  have hl0I : (0 : Int) < (s.length : Int) := by omega
  have HC0 : Hid (s.head? = some c0) := by show _ = _; rw [List.head?_eq_getElem?]; exact hc0
  clear hc0
  by_cases h1 : 1 < s.length ∧ c0 = 48
  · have HN : Hid (R = none) := by show _ = _; rw [HR.out, if_pos (.inr ⟨h1.1, by rw [HC0.out, h1.2]⟩)]
    have h1I : (1 : Int) < (s.length : Int) := by omega
    obtain rfl := h1.2
    clear HR HC0 h0
    go_enter Tryz.func78, Tryz.ntmps78
    go_wp2_with fail
    go_ret2
    exact ⟨(HA.out _).2 (.inr ⟨HN.out, rfl⟩), rfl⟩
  have HG : Hid (R = numG s 0) := by
    show _ = _
    rw [HR.out, if_neg]
    rintro (h | ⟨h, h'⟩)
    · exact h0 h
    · rw [HC0.out] at h'
      exact h1 ⟨h, by simpa using h'⟩
  clear HR HC0
  have HS0 : Hid (numG s 0 = numG (s.drop 0) 0) := by show _ = _; rw [List.drop_zero]
  by_cases h2 : 1 < s.length
  case' pos =>
    have h2I : (1 : Int) < (s.length : Int) := by omega
    have hne : ((c0.toNat : Int) == 48) = false := by
      simp only [beq_eq_false_iff_ne, ne_eq]
      intro e
      exact h1 ⟨h2, UInt8.toNat_inj.1 (show c0.toNat = (48 : UInt8).toNat from by simpa using (by omega : c0.toNat = 48))⟩
    clear h1
    go_enter Tryz.func78, Tryz.ntmps78
    go_wp2_with fail
    clear hne
  case' neg =>
    have h2I : ¬ (1 : Int) < (s.length : Int) := by omega
    clear h1
    go_enter Tryz.func78, Tryz.ntmps78
    go_wp2_with fail
  all_goals
    clear hA0 h2 h2I t0 h0
    go_loopw [4, 5] (fun v i wr => ∃ (j n : Nat), v = .int .u64 (n : Int) ∧ i = .int .i64 (j : Int) ∧ j ≤ s.length ∧ Hid (R = numG (s.drop j) n) ∧ Hid (n < 18446744073709551616) ∧ Hid (w = wr)) (fun _ i _ => s.length - (intOf i).toNat)
    case atStart => exact ⟨0, 0, rfl, rfl, by omega, Hid.mk (by rw [HG.out]; exact HS0.out), Hid.mk (by omega), Hid.mk rfl⟩
    case round =>
      obtain ⟨j, n, rfl, rfl, hj, HN, HB, HW⟩ := hrel
      obtain rfl := HW.out
      clear HW HG HS0
      by_cases hlt : j < s.length
      · have hjI : (j : Int) < (s.length : Int) := by omega
        have hj0 : (0 : Int) ≤ (j : Int) := by omega
        obtain ⟨c, hc⟩ : ∃ c, s[j]? = some c := ⟨s[j], by simp⟩
        have hA : ∀ h, (⟨s.toArray⟩ : ByteArray)[j]'h = c := fun h => byte_at hc h
        have hlt8 := c.toNat_lt
        have HE : Hid (numG (s.drop j) n = if isDig c = false ∨ 18446744073709551615 < 10 * n + (c.toNat - 48) then none else numG (s.drop (j + 1)) (10 * n + (c.toNat - 48))) := by
          show _ = _
          have e1 : s.drop j = c :: s.drop (j + 1) := by
            obtain ⟨h1, h2⟩ := List.getElem?_eq_some_iff.1 hc
            rw [List.drop_eq_getElem_cons h1, h2]
          rw [e1, numG]
        clear hc
        by_cases hd1 : 48 ≤ c.toNat
        · by_cases hd2 : c.toNat ≤ 57
          · have hd1I : ¬ (c.toNat : Int) < 48 := by omega
            have hd2I : ¬ (57 : Int) < (c.toNat : Int) := by omega
            have hdig : isDig c = true := by unfold isDig; simp; omega
            obtain ⟨d, hd⟩ : ∃ d : Nat, c.toNat = d + 48 := ⟨c.toNat - 48, by omega⟩
            have hd9 : d ≤ 9 := by omega
            have he8 : (c.toNat : Int) - 48 = (d : Int) := by omega
            have hN8 : c.toNat - 48 = d := by omega
            rw [hN8] at HE
            by_cases hov : 18446744073709551615 < 10 * n + d
            · have HN0 : Hid (R = none) := by show _ = _; rw [HN.out, HE.out, if_pos (.inr hov)]
              have hq : (18446744073709551615 - (d : Int)) / 10 < (n : Int) := by omega
              clear HE HN hov hd hN8
              go_wp2_with fail
              go_ret2
              exact ⟨(HA.out _).2 (.inr ⟨HN0.out, rfl⟩), rfl⟩
            · have HN1 : Hid (R = numG (s.drop (j + 1)) (10 * n + d)) := by
                show _ = _
                rw [HN.out, HE.out, if_neg]
                rintro (h | h)
                · rw [hdig] at h; cases h
                · exact hov h
              have hq : ¬ (18446744073709551615 - (d : Int)) / 10 < (n : Int) := by omega
              have hb1 : 10 * (n : Int) < 18446744073709551616 := by omega
              have hb2 : 10 * (n : Int) + (d : Int) < 18446744073709551616 := by omega
              have HB1 : Hid (10 * n + d < 18446744073709551616) := by show _ < _; omega
              have hcast : ((10 * n + d : Nat) : Int) = 10 * (n : Int) + (d : Int) := by omega
              have HCast := Hid.mk hcast
              clear HE HN hov hd hN8 hcast HB
              go_wp2_with fail
              go_roundw
              case rel => exact ⟨j + 1, 10 * n + d, by rw [HCast.out], by go_num, by omega, HN1, HB1, by trivial⟩
              case measure => simp [intOf]; omega
          · have hd1I : ¬ (c.toNat : Int) < 48 := by omega
            have hd2I : (57 : Int) < (c.toNat : Int) := by omega
            have HN0 : Hid (R = none) := by
              show _ = _
              rw [HN.out, HE.out, if_pos (.inl (by unfold isDig; simp; omega))]
            clear HE HN
            go_wp2_with fail
            go_ret2
            exact ⟨(HA.out _).2 (.inr ⟨HN0.out, rfl⟩), rfl⟩
        · have hd1I : (c.toNat : Int) < 48 := by omega
          have HN0 : Hid (R = none) := by
            show _ = _
            rw [HN.out, HE.out, if_pos (.inl (by unfold isDig; simp; omega))]
          clear HE HN
          go_wp2_with fail
          go_ret2
          exact ⟨(HA.out _).2 (.inr ⟨HN0.out, rfl⟩), rfl⟩
      · have hjI : ¬ (j : Int) < (s.length : Int) := by omega
        have HN0 : Hid (R = some n) := by
          show _ = _
          rw [HN.out, List.drop_eq_nil_of_le (by omega)]
          rfl
        clear HN
        go_wp2_with fail
        go_ret2
        exact ⟨(HA.out _).2 (.inl ⟨n, HN0.out, rfl⟩), rfl⟩
end
end Go.Proofs.YtibapmjgpnldgaaGreatDoor
/-
  The document's Int.
-/
namespace Go.Proofs.YtibapmjgpnldgaaGreatDoor
open Go.RowKit
set_option maxRecDepth 100000
set_option linter.unusedVariables false
/-- A part of a text. -/
theorem cut_mid (s : List UInt8) (i j : Nat) : (⟨s.toArray⟩ : ByteArray).extract i j = ⟨((s.take j).drop i).toArray⟩ := by
  apply ByteArray.ext
  rw [ByteArray.data_extract]
  simp [List.drop_take]
/-- What Int answers. -/
def IntRt (s : List UInt8) (e : Ending) : Prop := (∃ z : Int, intD s = some z ∧ e = .returned (.tuple #[.int .i64 z, .bool true])) ∨ (intD s = none ∧ e = .returned (.tuple #[.int .i64 0, .bool false]))
section
variable {w : World}
set_option maxHeartbeats 4000000 in
theorem int67 (s : List UInt8) (hs : s.length ≤ 100000) : Calls Tryz.prog 63 #[.string ⟨s.toArray⟩] w fun e w' => IntRt s e ∧ w = w' := by
  have hz : (⟨s.toArray⟩ : ByteArray).size = s.length := by simp [ByteArray.size]
  obtain ⟨R, HR'⟩ : ∃ R, Hid (R = intD s) := ⟨_, rfl⟩
  have HA : Hid (∀ e, IntRt s e ↔ ((∃ z : Int, R = some z ∧ e = .returned (.tuple #[.int .i64 z, .bool true])) ∨ (R = none ∧ e = .returned (.tuple #[.int .i64 0, .bool false])))) := fun e => by unfold IntRt; rw [← HR'.out]
  generalize IntRt s = NA at *
  have HR := Hid.mk HR'.out
  clear HR'
  unfold intD at HR
  by_cases hh : s.head? = some 45
  · obtain ⟨t, rfl⟩ : ∃ t, s = 45 :: t := by
      cases s with
      | nil => simp at hh
      | cons a t => simp at hh; exact ⟨t, by rw [hh]⟩
    have hR : R = (numD t).bind fun n => if n = 0 ∨ 9223372036854775808 < n then none else some (-(n : Int)) := by rw [HR.out, if_pos hh]; rfl
    have HR2 := Hid.mk hR
    have hl0 : (0 : Int) < ((45 :: t).length : Int) := by simp only [List.length_cons]; omega
    have hA0 : ∀ h, (⟨(45 :: t).toArray⟩ : ByteArray)[0]'h = 45 := fun h => byte_at rfl h
    have HC := Hid.mk (number84 (w := w) t (by simp at hs; omega))
    have hcut : (⟨(45 :: t).toArray⟩ : ByteArray).extract 1 (t.length + 1) = ⟨t.toArray⟩ := by rw [cut_mid]; simp
    clear hh hR HR
    go_enter Tryz.func63, Tryz.ntmps63
    go_wp2_with fail
    refine HC.out.mono ?_
    rintro e w1 ⟨hn, rfl⟩
    rcases hn with ⟨n, hn, rfl⟩ | ⟨hn, rfl⟩
    · have HO := Hid.mk (numD_own hn).2
      by_cases h0 : n = 0
      · have HN : Hid (R = none) := by show _ = _; rw [HR2.out, hn]; dsimp only [Option.bind_some]; rw [if_pos (.inl h0)]
        subst h0
        clear HR2 hn
        go_wp2_with fail
        go_ret2
        exact ⟨(HA.out _).2 (.inr ⟨HN.out, rfl⟩), rfl⟩
      · by_cases h1 : 9223372036854775808 < n
        · have HN : Hid (R = none) := by show _ = _; rw [HR2.out, hn]; dsimp only [Option.bind_some]; rw [if_pos (.inr h1)]
          have t0 : ((n : Int) == 0) = false := by simp; omega
          have t1 : (9223372036854775808 : Int) < (n : Int) := by omega
          clear HR2 hn
          go_wp2_with fail
          go_ret2
          exact ⟨(HA.out _).2 (.inr ⟨HN.out, rfl⟩), rfl⟩
        · have HN : Hid (R = some (-(n : Int))) := by show _ = _; rw [HR2.out, hn]; dsimp only [Option.bind_some]; rw [if_neg (by omega)]
          have t0 : ((n : Int) == 0) = false := by simp; omega
          have t1 : ¬ (9223372036854775808 : Int) < (n : Int) := by omega
          have hw1 : IntKind.i64.wrap (IntKind.u64.wrap (-(n : Int))) = -(n : Int) := by rw [IntKind.wrap_u64, IntKind.wrap_i64]; omega
          clear HR2 hn
          go_wp2_with fail
          go_ret2
          exact ⟨(HA.out _).2 (.inl ⟨_, HN.out, by first | rfl | (congr 3; omega)⟩), rfl⟩
    · have HN : Hid (R = none) := by show _ = _; rw [HR2.out, hn]; rfl
      clear HR2 hn
      go_wp2_with fail
      go_ret2
      exact ⟨(HA.out _).2 (.inr ⟨HN.out, rfl⟩), rfl⟩
  · have HR2 : Hid (R = (numD s).bind fun n => if 9223372036854775807 < n then none else some (n : Int)) := by show _ = _; rw [HR.out, if_neg hh]
    have HC := Hid.mk (number84 (w := w) s hs)
    clear HR
    by_cases hl : s = []
    case' pos =>
      subst hl
      clear hh
      go_enter Tryz.func63, Tryz.ntmps63
      go_wp2_with fail
    case' neg =>
      have hl0 : (0 : Int) < (s.length : Int) := by cases s with | nil => exact absurd rfl hl | cons => simp only [List.length_cons]; omega
      have hl1 : 0 < s.length := by omega
      obtain ⟨c0, hc0⟩ : ∃ c, s[0]? = some c := ⟨s[0], by simp⟩
      have hA0 : ∀ h, (⟨s.toArray⟩ : ByteArray)[0]'h = c0 := fun h => byte_at hc0 h
      have hne : ((c0.toNat : Int) == 45) = false := by
        simp only [beq_eq_false_iff_ne, ne_eq]
        intro e
        apply hh
        rw [List.head?_eq_getElem?, hc0]
        exact congrArg some (UInt8.toNat_inj.1 (show c0.toNat = (45 : UInt8).toNat from by simpa using (by omega : c0.toNat = 45)))
      clear hh hc0 hl
      go_enter Tryz.func63, Tryz.ntmps63
      go_wp2_with fail
      clear hne hA0 hl0 hl1
    all_goals
      refine HC.out.mono ?_
      rintro e w1 ⟨hn, rfl⟩
      rcases hn with ⟨n, hn, rfl⟩ | ⟨hn, rfl⟩
      · by_cases h1 : 9223372036854775807 < n
        · have HN : Hid (R = none) := by show _ = _; rw [HR2.out, hn]; dsimp only [Option.bind_some]; rw [if_pos h1]
          have t1 : (9223372036854775807 : Int) < (n : Int) := by omega
          clear HR2 hn
          go_wp2_with fail
          go_ret2
          exact ⟨(HA.out _).2 (.inr ⟨HN.out, rfl⟩), rfl⟩
        · have HN : Hid (R = some (n : Int)) := by show _ = _; rw [HR2.out, hn]; dsimp only [Option.bind_some]; rw [if_neg h1]
          have t1 : ¬ (9223372036854775807 : Int) < (n : Int) := by omega
          have hw1 : IntKind.i64.wrap (n : Int) = (n : Int) := by rw [IntKind.wrap_i64]; omega
          clear HR2 hn
          go_wp2_with fail
          go_ret2
          exact ⟨(HA.out _).2 (.inl ⟨_, HN.out, rfl⟩), rfl⟩
      · have HN : Hid (R = none) := by show _ = _; rw [HR2.out, hn]; rfl
        clear HR2 hn
        go_wp2_with fail
        go_ret2
        exact ⟨(HA.out _).2 (.inr ⟨HN.out, rfl⟩), rfl⟩
end
end Go.Proofs.YtibapmjgpnldgaaGreatDoor
