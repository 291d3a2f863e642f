import Derived.Test.YtpodoiichpnpjaaDoorQ16
import Derived.Test.YtpodoiichpnpjaaDoorQ29
import Derived.Test.YtpodoiichpnpjaaDoorQ31
/-
  The document's Formed.
-/
namespace Go.Proofs.YtpodoiichpnpjaaDoor
open Go.RowKit
set_option maxRecDepth 100000
set_option linter.unusedVariables false
/-- The greatest integers that may stand behind an operation. -/
def most6 (nn nc : Nat) : Array Value := #[.int .i64 0, .int .i64 9223372036854775807, .int .i64 7, .int .i64 3, .int .i64 (nc : Int), .int .i64 ((nn : Int) - 1)]
theorem most6_at {W : World} {g nn nc : Nat} {t : TypeId} (h : W.heap[g]? = some (.cells (most6 nn nc) t (0, 0))) {k : Nat} (hk : k ≤ 5) : ∃ M : Int, W.cell? ⟨g, k, none⟩ = some (.int .i64 M) ∧ (k ≠ 1 → M = mostI nn nc k) := by
  match k, hk with
  | 0, _ => exact ⟨0, by simp [World.cell?, h, most6], fun _ => rfl⟩
  | 1, _ => exact ⟨9223372036854775807, by simp [World.cell?, h, most6], fun h => absurd rfl h⟩
  | 2, _ => exact ⟨7, by simp [World.cell?, h, most6], fun _ => rfl⟩
  | 3, _ => exact ⟨3, by simp [World.cell?, h, most6], fun _ => rfl⟩
  | 4, _ => exact ⟨nc, by simp [World.cell?, h, most6], fun _ => rfl⟩
  | 5, _ => exact ⟨(nn : Int) - 1, by simp [World.cell?, h, most6], fun _ => rfl⟩
theorem words_len : ∀ x ∈ words, x.1.length ≤ 10 ∧ x.2 ≤ 5 := by decide
theorem words_some : ∀ x ∈ words, x.1 ≠ [] := by decide
section
variable {w : World}
set_option maxHeartbeats 4000000 in
theorem formed14 {v u : Value} {p : Pg} (hP : IsP w v u p) (hK : ∀ s ∈ p.names, s.length ≤ 9223372036854775807) :
    Calls Tryd.prog 20 #[.agg #[v, u]] w fun e w' => e = .returned (.bool (formedP p)) ∧ Kept [] w w' := by
  obtain ⟨a, c, b, d, rfl, rfl, hl1, hl2⟩ := hP.form
  have HP := Hid.mk hP
  obtain ⟨W0, e0, k0, hz0, hb0⟩ := box1 w (.cells #[.slice a p.names.length c, .slice b p.code.length d] 25)
  obtain ⟨y0, y1⟩ := cells2 hb0
  have HB0 := Hid.mk hb0
  have HK0 := Hid.mk k0
  clear k0 hb0 hz0 hP
  obtain ⟨R, HR⟩ : ∃ R, Hid (formedP p = R) := ⟨_, rfl⟩
  rw [HR.out]
  by_cases hA : 8 < p.names.length
  · obtain rfl : R = false := by rw [← HR.out]; exact formed_wrong (.inl hA)
    have hA' : (8 : Int) < (p.names.length : Int) := by omega
    clear HR
    go_enter Tryd.func20, Tryd.ntmps20
    go_wp2_with fail
    go_ret
    exact ⟨rfl, HK0.out⟩
  have hA' : ¬ (8 : Int) < (p.names.length : Int) := by omega
  by_cases hB : 200 < p.code.length
  · obtain rfl : R = false := by rw [← HR.out]; exact formed_wrong (.inr hB)
    have hB' : (200 : Int) < (p.code.length : Int) := by omega
    clear HR
    go_enter Tryd.func20, Tryd.ntmps20
    go_wp2_with fail
    go_ret
    exact ⟨rfl, HK0.out⟩
  have hB' : ¬ (200 : Int) < (p.code.length : Int) := by omega
  go_enter Tryd.func20, Tryd.ntmps20
  go_wp2_with fail
  generalize hg : w.heap.size = g at *
  clear hg
  go_loopw [21] (fun i wr => ∃ j : Nat, Hid (Kept [] W0 wr) ∧ i = .int .i64 (j : Int) ∧ j ≤ p.names.length ∧ Hid (∀ i (hi : i < p.names.length), i < j → isKey p.names[i] = true)) (fun i _ => p.names.length - (intOf i).toNat)
  case atStart => exact ⟨0, Hid.mk (Kept.refl [] W0), rfl, by omega, Hid.mk (fun _ _ h => by omega)⟩
  case round =>
    obtain ⟨j, HW, rfl, hj, HJ⟩ := hrel
    have HKW := Hid.mk (HK0.out.then HW.out)
    obtain ⟨x0, x1⟩ := cells2 (HW.out.keeps HB0.out (by simp))
    by_cases hlt : j < p.names.length
    · obtain ⟨b1, o1, rfl, hc1⟩ := names_at (HP.out.names.keep HKW.out) hlt
      have hjI : (j : Int) < (p.names.length : Int) := by omega
      have hj0 : (0 : Int) ≤ (j : Int) := by omega
      have HC := Hid.mk (key32 (w := wr) p.names[j] (hK _ (List.getElem_mem hlt)))
      have HY := Hid.mk (fun h => formed_name (p := p) hlt h)
      have HT : Hid (isKey p.names[j] = true → ∀ i (hi : i < p.names.length), i < j + 1 → isKey p.names[i] = true) := fun h i hi hij => by
        by_cases e : i = j
        · subst e; exact h
        · exact HJ.out i hi (by omega)
      cases hk : isKey p.names[j] with
      | false =>
        rw [hk] at HC
        obtain rfl : R = false := by rw [← HR.out]; exact HY.out hk
        clear HR HJ HT hk
        generalize (⟨p.names[j].toArray⟩ : ByteArray) = q at *
        go_wp2_with fail
        refine HC.out.mono ?_
        rintro e w1 ⟨rfl, rfl⟩
        go_wp2_with fail
        go_ret
        exact ⟨rfl, HKW.out⟩
      | true =>
        rw [hk] at HC
        have HT' := Hid.mk (HT.out hk)
        clear HJ HT hk
        generalize (⟨p.names[j].toArray⟩ : ByteArray) = q at *
        go_wp2_with fail
        refine HC.out.mono ?_
        rintro e w1 ⟨rfl, rfl⟩
        go_wp2_with fail
        go_roundw
        case rel => exact ⟨j + 1, HW, by go_num, by omega, HT'⟩
        case measure => simp [intOf]; omega
    · have hje : ¬ (j : Int) < (p.names.length : Int) := by omega
      have HJ' : Hid (∀ i (hi : i < p.names.length), isKey p.names[i] = true) := fun i hi => HJ.out i hi (by omega)
      clear HJ
      go_wp2_with fail
      go_loopw [35] (fun i wr => ∃ j : Nat, Hid (Kept [] W0 wr) ∧ i = .int .i64 (j : Int) ∧ j ≤ p.code.length ∧ Hid (∀ i (hi : i < p.code.length), i < j → okI p.names.length p.code.length p.code[i] = true)) (fun i _ => p.code.length - (intOf i).toNat)
      case atStart => exact ⟨0, HW, rfl, by omega, Hid.mk (fun _ _ h => by omega)⟩
      case round =>
        clear HW HKW x0 x1
        obtain ⟨l, HW, rfl, hl, HL⟩ := hrel
        have HKW := Hid.mk (HK0.out.then HW.out)
        have hbr := HW.out.keeps HB0.out (by simp)
        obtain ⟨x0, x1⟩ := cells2 hbr
        by_cases hlt2 : l < p.code.length
        · obtain ⟨b1, o1, rfl, hc1, hc2⟩ := code_at (HP.out.code.keep HKW.out) hlt2
          have hjI : (l : Int) < (p.code.length : Int) := by omega
          have hj0 : (0 : Int) ≤ (l : Int) := by omega
          have HY := Hid.mk (fun h => formed_code (p := p) hlt2 h)
          have HT : Hid (okI p.names.length p.code.length p.code[l] = true → ∀ i (hi : i < p.code.length), i < l + 1 → okI p.names.length p.code.length p.code[i] = true) := fun h i hi hij => by
            by_cases e : i = l
            · subst e; exact h
            · exact HL.out i hi (by omega)
          obtain ⟨W3, e3, k3, hz3, hb3⟩ := box1 wr (.cells (most6 p.names.length p.code.length) 2)
          have HM := Hid.mk (fun (k : Nat) (h : k ≤ 5) => most6_at hb3 h)
          unfold most6 at e3
          have HK3 := Hid.mk (HW.out.then k3)
          have z0 := k3.cell_eq x0
          have z1 := k3.cell_eq x1
          have z3 := k3.cell_eq hc2
          have wr1 : IntKind.i64.wrap ((p.names.length : Int) - 1) = (p.names.length : Int) - 1 := by rw [IntKind.wrap_i64]; omega
          clear HL hbr hz3 hb3 k3
          by_cases hin : p.code[l].op < 0 ∨ 24 ≤ p.code[l].op
          · have HC := Hid.mk (word28_out (w := wr) hin)
            obtain rfl : R = false := by rw [← HR.out]; exact HY.out (okI_out hin)
            obtain ⟨M, m0, -⟩ := HM.out 0 (by omega)
            clear HR HT HY HM hin
            generalize p.code[l].op = q1 at *
            generalize p.code[l].arg = q2 at *
            go_wp2_with fail
            refine HC.out.mono ?_
            rintro e w1 ⟨rfl, rfl⟩
            go_wp2_with fail
            go_ret
            exact ⟨rfl, HK0.out.then HK3.out⟩
          · obtain ⟨i, hi⟩ : ∃ i : Nat, p.code[l].op = (i : Int) := ⟨p.code[l].op.toNat, by omega⟩
            have hi24 : i < words.length := by rw [words_length]; omega
            obtain ⟨s, k, hw⟩ : ∃ s k, words[i]? = some (s, k) := ⟨words[i].1, words[i].2, by rw [List.getElem?_eq_getElem hi24]⟩
            have hk5 := (words_len _ (List.mem_of_getElem? hw)).2
            have hs := words_some _ (List.mem_of_getElem? hw)
            dsimp only at hk5 hs
            have HC := Hid.mk (word28 (w := wr) hw)
            have hok := okI_at (nn := p.names.length) (nc := p.code.length) hi hw hk5
            have ts : (s == []) = false := by simpa using hs
            have ts2 : s.isEmpty = false := by simpa using hs
            obtain ⟨M, m0, hM⟩ := HM.out k hk5
            have hkI : (k : Int) < 6 := by omega
            have hkN : k < 6 := by omega
            have hk0 : (0 : Int) ≤ (k : Int) := by omega
            rw [hi] at hc1
            have HM2 : Hid (k ≠ 1 → choiceN p.names.length p.code.length k = M + 1) := fun h => by rw [choice_most hk5 h, hM h]
            clear HM hw hs hi24 hi hM
            have HZ := Hid.mk z3
            by_cases h1 : k = 1
            · subst h1
              have HT' := Hid.mk (HT.out (by rw [hok]; simp))
              clear hok HT HY HM2
              generalize p.code[l].arg = q2 at *
              go_wp2_with fail
              refine HC.out.mono ?_
              rintro e w1 ⟨rfl, rfl⟩
              go_wp2_with fail
              go_roundw
              case rel => exact ⟨l + 1, HK3, by go_num, by omega, HT'⟩
              case measure => simp [intOf]; omega
            · have t1 : ((k : Int) == 1) = false := by simp; omega
              have t1' : ((k : Int) != 1) = true := by simp; omega
              rw [HM2.out h1] at hok
              generalize p.code[l].arg = q2 at *
              by_cases h2 : q2 < 0
              · obtain rfl : R = false := by rw [← HR.out]; exact HY.out (by rw [hok]; simp; omega)
                clear hok HT HY HM2 HR
                go_wp2_with fail
                refine HC.out.mono ?_
                rintro e w1 ⟨rfl, rfl⟩
                go_wp2_with fail
                go_ret
                exact ⟨rfl, HK0.out.then HK3.out⟩
              · by_cases h3 : M < q2
                · obtain rfl : R = false := by rw [← HR.out]; exact HY.out (by rw [hok]; simp; omega)
                  clear hok HT HY HM2 HR
                  go_wp2_with fail
                  refine HC.out.mono ?_
                  rintro e w1 ⟨rfl, rfl⟩
                  go_wp2_with fail
                  go_ret
                  exact ⟨rfl, HK0.out.then HK3.out⟩
                · have HT' := Hid.mk (HT.out (by rw [hok]; simp; omega))
                  clear hok HT HY HM2
                  go_wp2_with fail
                  refine HC.out.mono ?_
                  rintro e w1 ⟨rfl, rfl⟩
                  go_wp2_with fail
                  go_roundw
                  case rel => exact ⟨l + 1, HK3, by go_num, by omega, HT'⟩
                  case measure => simp [intOf]; omega
        · have hje2 : ¬ (l : Int) < (p.code.length : Int) := by omega
          obtain rfl : R = true := by rw [← HR.out]; exact formed_yes (by omega) (by omega) HJ'.out (fun i hi => HL.out i hi (by omega))
          clear HL HR
          go_wp2_with fail
          go_ret
          exact ⟨rfl, HKW.out⟩
end
end Go.Proofs.YtpodoiichpnpjaaDoor
