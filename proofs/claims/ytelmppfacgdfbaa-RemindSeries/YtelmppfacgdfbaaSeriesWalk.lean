/-
  RemindSeries: the walk.
-/
import Derived.Test.YtelmppfacgdfbaaOn
namespace Go.Proofs.Ytelmppfacgdfbaa
set_option maxRecDepth 100000
open Go.RowKit Go.Shelf
set_option linter.unusedVariables false
/-- The queue of one reminder, while it is served. -/
def SerS (per : Int) (Q : List Rm) (next : Int) (over : Bool) : Prop := if over = true then Q = [] else Q = [⟨[97], [110], next, per, 7⟩] ∧ 0 ≤ next ∧ next ≤ 9223372036854775807
section
variable {w : World}
set_option maxHeartbeats 2000000 in
theorem series_walk (due per now : Int) (n : Nat) (h1 : I64 due) (h2 : I64 per) (h3 : I64 now) (hn : n < 256) : Calls Try.prog 5 #[Iv due, Iv per, Iv now, .int .u8 (n : Int)] w fun e w' => e = .returned (.bool true) ∧ Kept [] w w' := by
  have hR : R64 ⟨[97], [110], due, per, 7⟩ := ⟨h1, h2, by show I64 7; unfold I64; decide⟩
  obtain ⟨h1a, h1b⟩ := h1
  obtain ⟨h2a, h2b⟩ := h2
  obtain ⟨h3a, h3b⟩ := h3
  go_enter Try.func5, Try.ntmps5
  go_wp2_with fail
  refine awake9.mono ?_
  rintro e w1 ⟨rfl, k1⟩
  go_wp2_with fail
  refine (one_new (w0 := w) k1).mono ?_
  rintro e w2 ⟨p, rfl, T2⟩
  have HS := Hid.mk (one_set T2 ⟨[97], [110], due, per, 7⟩ hR (by simp) (by simp))
  clear T2 k1 hR
  by_cases hbad : due < 0 ∨ per < 1
  · have e1 : setA [] ⟨[97], [110], due, per, 7⟩ = 3 := by
      have : errR ⟨[97], [110], due, per, 7⟩ = 3 := by
        rw [errR, if_neg (by simp [isKey]), if_pos hbad]
      rw [setA, this, if_pos (by decide)]
    have e2 : setQ [] ⟨[97], [110], due, per, 7⟩ = [] := by rw [setQ, e1, if_neg (by decide)]
    rw [e1, e2] at HS
    clear e1 e2
    by_cases hd : due < 0
    · clear hbad
      go_wp2_with fail
      refine HS.out.mono ?_
      rintro e w3 ⟨rfl, T3⟩
      have HA := Hid.mk (one_all T3)
      clear T3 HS
      go_wp2_with fail
      refine HA.out.mono ?_
      rintro e w4 ⟨b, rfl, T4⟩
      have HK := Hid.mk T4.kept
      clear T4 HA
      go_wp2_with fail
      go_ret
      exact ⟨rfl, HK.out⟩
    · have hp : per < 1 := by rcases hbad with h | h; exact absurd h hd; exact h
      clear hbad
      go_wp2_with fail
      refine HS.out.mono ?_
      rintro e w3 ⟨rfl, T3⟩
      have HA := Hid.mk (one_all T3)
      clear T3 HS
      go_wp2_with fail
      refine HA.out.mono ?_
      rintro e w4 ⟨b, rfl, T4⟩
      have HK := Hid.mk T4.kept
      clear T4 HA
      go_wp2_with fail
      go_ret
      exact ⟨rfl, HK.out⟩
  · have hd : ¬ due < 0 := fun e => hbad (.inl e)
    have hp : ¬ per < 1 := fun e => hbad (.inr e)
    have e1 : setA [] ⟨[97], [110], due, per, 7⟩ = 0 := by
      have : errR ⟨[97], [110], due, per, 7⟩ = 0 := by
        rw [errR, if_neg (by simp [isKey]), if_neg hbad]
      rw [setA, this, if_neg (by decide), if_neg (by simp)]
    have e2 : setQ [] ⟨[97], [110], due, per, 7⟩ = [⟨[97], [110], due, per, 7⟩] := by rw [setQ, if_pos e1]; rfl
    rw [e1, e2] at HS
    clear e1 e2 hbad
    go_wp2_with fail
    refine HS.out.mono ?_
    rintro e w3 ⟨rfl, T3⟩
    have HT := Hid.mk T3
    clear T3 HS
    go_wp2_with fail
    go_loopw [40, 11, 12] (fun vi vn vo wr => ∃ (j : Nat) (next : Int) (over : Bool), vi = .int .i64 (j : Int) ∧ vn = Iv next ∧ vo = .bool over ∧ j ≤ n ∧ Hid (∃ Q, One w wr p Q ∧ SerS per Q next over)) (fun vi _ _ _ => n - (intOf vi).toNat)
    case atStart => exact ⟨0, due, false, rfl, rfl, rfl, by omega, Hid.mk ⟨_, HT.out, by rw [SerS, if_neg (by decide)]; exact ⟨rfl, by omega, by omega⟩⟩⟩
    case round =>
      obtain ⟨j, next, over, rfl, rfl, rfl, hj, H⟩ := hrel
      have HF : Hid (∀ W Q, One w W p Q → SerS per Q next over → Calls Try.prog 18 #[.pointer (some ⟨p, 0, none⟩)] W fun e w' => ∃ b m, e = .returned (.slice (some ⟨b, 0, none⟩) m m) ∧ (((m : Int) == 0) == over) = true ∧ (m : Int) ≤ 64 ∧ Kept [] w w') := fun W Q T S => by
        refine (one_all T).mono ?_
        rintro e w' ⟨b, rfl, T'⟩
        refine ⟨b, _, rfl, ?_, by have := T.isQ.len; omega, T'.kept⟩
        unfold SerS at S
        cases over with
        | true => rw [if_pos rfl] at S; subst S; rfl
        | false => rw [if_neg (by decide)] at S; rw [S.1]; rfl
      by_cases hlt : j < n
      · have hjI : (j : Int) < (n : Int) := by omega
        obtain ⟨Q, T, S⟩ := H.out
        cases over with
        | true =>
          have S0 := S
          unfold SerS at S
          rw [if_pos rfl] at S
          subst S
          have HV := Hid.mk (one_serve T now)
          have e1 : dueA [] now = (zr, false) := rfl
          have e2 : serQ [] now = [] := rfl
          have e3 : Rv zr = .agg #[.string { data := #[] }, .string { data := #[] }, .int .i64 0, .int .i64 0, .int .i64 0] := rfl
          rw [e1, e2] at HV
          dsimp only at HV
          rw [e3] at HV
          clear T H HT e1 e2 e3
          go_wp2_with fail
          refine HV.out.mono ?_
          rintro e w4 ⟨rfl, T4⟩
          have T5 := T4.kept0 ((Kept.refl [] w4).alloc (.cells #[.string { data := #[] }, .string { data := #[] }, .int .i64 0, .int .i64 0, .int .i64 0] 27))
          have HFF := Hid.mk (HF.out _ _ T5 S0)
          clear T4 T5 HV HF
          go_wp2_with fail
          refine HFF.out.mono ?_
          rintro e w5 ⟨b, m, rfl, hm, hm2, k5⟩
          go_wp2_with fail
          go_ret
          exact ⟨rfl, k5⟩
        | false =>
          have S0 := S
          unfold SerS at S
          rw [if_neg (by decide)] at S
          obtain ⟨rfl, hn0, hn1⟩ := S
          have HV := Hid.mk (one_serve T now)
          by_cases hnow : next ≤ now
          · have hnl : ¬ now < next := by omega
            have e1 : dueA [⟨[97], [110], next, per, 7⟩] now = (⟨[97], [110], next, per, 7⟩, true) := by rw [dueA, if_neg hnl]
            rw [e1] at HV
            dsimp only at HV
            have HN : Hid (∃ ov nx, ov = decide (9223372036854775807 - per < next) ∧ nx = wrap64 (next + per) ∧ SerS per (serQ [⟨[97], [110], next, per, 7⟩] now) nx ov) := by
              refine ⟨_, _, rfl, rfl, ?_⟩
              rw [serQ, if_neg hnl, serR]
              unfold SerS
              by_cases hov : next + per ≤ 9223372036854775807
              · have hw : wrap64 (next + per) = next + per := by unfold wrap64; omega
                rw [if_neg (by simp; omega), if_pos hov, hw]
                exact ⟨by simp [canR, sameR, layR, nextR], by omega, hov⟩
              · rw [if_pos (by simp; omega), if_neg hov]
                simp [canR, sameR]
            obtain ⟨ov, nx, ho, hx, hS⟩ := HN.out
            have HSS := Hid.mk hS
            have HO := Hid.mk ho
            have HX := Hid.mk hx
            generalize serQ [⟨[97], [110], next, per, 7⟩] now = Q' at HV HSS
            clear T H HT e1 S0 HN hS ho hx HF
            go_wp2_with fail
            refine HV.out.mono ?_
            rintro e w4 ⟨rfl, T4⟩
            have T5 := Hid.mk (T4.kept0 ((Kept.refl [] w4).alloc (.cells #[Sv [97], Sv [110], Iv next, Iv per, Iv 7] 27)))
            clear T4 HV
            go_wp2_with fail
            go_roundw
            case rel => exact ⟨j + 1, nx, ov, by go_num, by rw [HX.out], by rw [HO.out], by omega, Hid.mk ⟨_, T5.out, HSS.out⟩⟩
            case measure => simp [intOf]; omega
          · have hnl : now < next := by omega
            have e1 : dueA [⟨[97], [110], next, per, 7⟩] now = (zr, false) := by rw [dueA, if_pos hnl]
            have e2 : serQ [⟨[97], [110], next, per, 7⟩] now = [⟨[97], [110], next, per, 7⟩] := by rw [serQ, if_pos hnl]
            have e3 : Rv zr = .agg #[.string { data := #[] }, .string { data := #[] }, .int .i64 0, .int .i64 0, .int .i64 0] := rfl
            rw [e1, e2] at HV
            dsimp only at HV
            rw [e3] at HV
            clear T H HT e1 e2 e3
            go_wp2_with fail
            refine HV.out.mono ?_
            rintro e w4 ⟨rfl, T4⟩
            have T5 := T4.kept0 ((Kept.refl [] w4).alloc (.cells #[.string { data := #[] }, .string { data := #[] }, .int .i64 0, .int .i64 0, .int .i64 0] 27))
            have HFF := Hid.mk (HF.out _ _ T5 S0)
            clear T4 T5 HV HF
            go_wp2_with fail
            refine HFF.out.mono ?_
            rintro e w5 ⟨b, m, rfl, hm, hm2, k5⟩
            go_wp2_with fail
            go_ret
            exact ⟨rfl, k5⟩
      · obtain rfl : j = n := by omega
        obtain ⟨Q, T, S⟩ := H.out
        have HFF := Hid.mk (HF.out _ _ T S)
        clear T S H HF HT
        go_wp2_with fail
        refine HFF.out.mono ?_
        rintro e w4 ⟨b, m, rfl, hm, hm2, k4⟩
        go_wp2_with fail
        go_ret
        exact ⟨rfl, k4⟩
end
end Go.Proofs.Ytelmppfacgdfbaa
