/-
  Formed.
-/
import Derived.Test.YtpodoiichpnpjaaDoorFi
import Derived.Test.YtpodoiichpnpjaaDoorKw
namespace Go.Proofs.YtpodoiichpnpjaaDoor
open Go.RowKit
set_option maxRecDepth 100000
set_option linter.unusedVariables false
theorem formed_wrong {p : Pg} (h : 8 < p.names.length ∨ 200 < p.code.length) : formedP p = false := by
  cases e : formedP p with
  | false => rfl
  | true => have := formed_parts e; omega
theorem all_false {α : Type} {f : α → Bool} {l : List α} {j : Nat} (hj : j < l.length) (h : f l[j] = false) : l.all f = false := by
  cases e : l.all f with
  | false => rfl
  | true => rw [List.all_eq_true.1 e _ (List.getElem_mem hj)] at h; cases h
theorem formed_name {p : Pg} {j : Nat} (hj : j < p.names.length) (h : isKey p.names[j] = false) : formedP p = false := by
  unfold formedP
  rw [all_false hj h]
  simp
theorem formed_code {p : Pg} {j : Nat} (hj : j < p.code.length) (h : okI p.names.length p.code.length p.code[j] = false) : formedP p = false := by
  unfold formedP
  rw [all_false hj h]
  simp
theorem all_true {α : Type} {f : α → Bool} {l : List α} (h : ∀ i (hi : i < l.length), f l[i] = true) : l.all f = true := by
  rw [List.all_eq_true]
  intro x hx
  obtain ⟨i, hi, rfl⟩ := List.getElem_of_mem hx
  exact h i hi
theorem formed_yes {p : Pg} (h1 : p.names.length ≤ 8) (h2 : p.code.length ≤ 200) (h3 : ∀ i (hi : i < p.names.length), isKey p.names[i] = true) (h4 : ∀ i (hi : i < p.code.length), okI p.names.length p.code.length p.code[i] = true) : formedP p = true := by
  unfold formedP
  rw [all_true h3, all_true h4]
  simp [h1, h2]
section
variable {w : World}
set_option maxHeartbeats 1000000 in
theorem formed13 {v u : Value} {p : Pg} (hP : IsP w v u p) (hK : ∀ s ∈ p.names, s.length ≤ 9223372036854775807) (hG : Glob w) :
    Calls Tryd.prog 17 #[.agg #[v, u]] w fun e w' => e = .returned (.bool (formedP p)) ∧ Kept [] w w' := by
  obtain ⟨a, c, b, d, rfl, rfl, hl1, hl2⟩ := hP.form
  have HF : Hid (∀ (W : World) (x : In) (a b : Option Addr) (c d : Nat), Kept [] w W → p.names.length ≤ 1000 → p.code.length ≤ 1000 → Calls Tryd.prog 27 #[.agg #[.slice a p.names.length c, .slice b p.code.length d], .agg #[.int .i64 x.op, .int .i64 x.arg]] W fun e w' => e = .returned (.bool (okI p.names.length p.code.length x)) ∧ Kept [] W w') := fun W x a b c d k h1 h2 => fits31 (hG.kept k) x h1 h2
  clear hG
  have HP := Hid.mk hP
  obtain ⟨W0, e0, k0, hz0, hb0⟩ := box1 w (.cells #[.slice a p.names.length c, .slice b p.code.length d] 43)
  have y0 : W0.cell? ⟨w.heap.size, 0, none⟩ = some (.slice a p.names.length c) := by simp [World.cell?, hb0]
  have y1 : W0.cell? ⟨w.heap.size, 1, none⟩ = some (.slice b p.code.length d) := by simp [World.cell?, hb0]
  have HK0 := Hid.mk k0
  clear k0 hb0 hz0 hP
  obtain ⟨R, HR⟩ : ∃ R, Hid (formedP p = R) := ⟨_, rfl⟩
  rw [HR.out]
  by_cases hA : 8 < p.names.length
  · obtain rfl : R = false := by rw [← HR.out]; exact formed_wrong (.inl hA)
    have hA' : (8 : Int) < (p.names.length : Int) := by omega
    clear HR
    go_enter Tryd.func17, Tryd.ntmps17
    go_wp2_with fail
    go_ret
    exact ⟨rfl, HK0.out⟩
  have hA' : ¬ (8 : Int) < (p.names.length : Int) := by omega
  by_cases hB : 200 < p.code.length
  · obtain rfl : R = false := by rw [← HR.out]; exact formed_wrong (.inr hB)
    have hB' : (200 : Int) < (p.code.length : Int) := by omega
    clear HR
    go_enter Tryd.func17, Tryd.ntmps17
    go_wp2_with fail
    go_ret
    exact ⟨rfl, HK0.out⟩
  have hB' : ¬ (200 : Int) < (p.code.length : Int) := by omega
  go_enter Tryd.func17, Tryd.ntmps17
  go_wp2_with fail
  generalize hg : w.heap.size = g at *
  clear hg
  go_loopw [20] (fun i wr => ∃ j : Nat, Hid (Kept [] W0 wr) ∧ i = .int .i64 (j : Int) ∧ j ≤ p.names.length ∧ Hid (∀ i (hi : i < p.names.length), i < j → isKey p.names[i] = true)) (fun i _ => p.names.length - (intOf i).toNat)
  case atStart => exact ⟨0, Hid.mk (Kept.refl [] W0), rfl, by omega, Hid.mk (fun _ _ h => by omega)⟩
  case round =>
    obtain ⟨j, HW, rfl, hj, HJ⟩ := hrel
    have HKW := Hid.mk (HK0.out.then HW.out)
    have y1' : wr.cell? ⟨g, 1, none⟩ = some (.slice b p.code.length d) := HW.out.cell_eq y1
    by_cases hlt : j < p.names.length
    · obtain ⟨b1, o1, rfl, hc1⟩ := names_at (HP.out.names.keep HKW.out) hlt
      have hjI : (j : Int) < (p.names.length : Int) := by omega
      have hj0 : (0 : Int) ≤ (j : Int) := by omega
      have HC := Hid.mk (isKey30 (w := wr) p.names[j] (hK _ (List.getElem_mem hlt)))
      have hc1' : wr.cell? ⟨b1, o1 + j * 1, none⟩ = some (.string ⟨p.names[j].toArray⟩) := by rw [Nat.mul_one]; exact hc1
      have HY := Hid.mk (fun h => formed_name (p := p) hlt h)
      have HT : Hid (isKey p.names[j] = true → ∀ i (hi : i < p.names.length), i < j + 1 → isKey p.names[i] = true) := fun h i hi hij => by
        by_cases e : i = j
        · subst e; exact h
        · exact HJ.out i hi (by omega)
      cases hk : isKey p.names[j] with
      | false =>
        rw [hk] at HC
        obtain rfl : R = false := by rw [← HR.out]; exact HY.out hk
        clear HR HJ HT hk
        generalize (⟨p.names[j].toArray⟩ : ByteArray) = q at *
        go_wp2_with fail
        refine HC.out.mono ?_
        rintro e w1 ⟨rfl, rfl⟩
        go_wp2_with fail
        go_ret
        exact ⟨rfl, HKW.out⟩
      | true =>
        rw [hk] at HC
        have HT' := Hid.mk (HT.out hk)
        clear HJ HT hk
        generalize (⟨p.names[j].toArray⟩ : ByteArray) = q at *
        go_wp2_with fail
        refine HC.out.mono ?_
        rintro e w1 ⟨rfl, rfl⟩
        go_wp2_with fail
        go_roundw
        case rel => exact ⟨j + 1, HW, by go_num, by omega, HT'⟩
        case measure => simp [intOf]; omega
    · have hje : ¬ (j : Int) < (p.names.length : Int) := by omega
      have HJ' : Hid (∀ i (hi : i < p.names.length), isKey p.names[i] = true) := fun i hi => HJ.out i hi (by omega)
      clear HJ
      go_wp2_with fail
      generalize wr = W1 at *
      go_loopw [31] (fun i wr => ∃ j : Nat, Hid (Kept [] W1 wr) ∧ i = .int .i64 (j : Int) ∧ j ≤ p.code.length ∧ Hid (∀ i (hi : i < p.code.length), i < j → okI p.names.length p.code.length p.code[i] = true)) (fun i _ => p.code.length - (intOf i).toNat)
      case atStart => exact ⟨0, Hid.mk (Kept.refl [] W1), rfl, by omega, Hid.mk (fun _ _ h => by omega)⟩
      case round =>
        obtain ⟨l, HW2, rfl, hl, HL⟩ := hrel
        have HKV := Hid.mk (HKW.out.then HW2.out)
        have y3 : wr.cell? ⟨g, 0, none⟩ = some (.slice a p.names.length c) := (HW.out.then HW2.out).cell_eq y0
        have y4 : wr.cell? ⟨g, 1, none⟩ = some (.slice b p.code.length d) := HW2.out.cell_eq y1'
        by_cases hlt2 : l < p.code.length
        · obtain ⟨b1, o1, rfl, hc1, hc2⟩ := code_at (HP.out.code.keep HKV.out) hlt2
          have hjI : (l : Int) < (p.code.length : Int) := by omega
          have hj0 : (0 : Int) ≤ (l : Int) := by omega
          have HC := Hid.mk (fun (W : World) (k : Kept [] w W) => HF.out W p.code[l] a (some ⟨b1, o1, none⟩) c d k (by omega) (by omega))
          have HY := Hid.mk (fun h => formed_code (p := p) hlt2 h)
          have HT : Hid (okI p.names.length p.code.length p.code[l] = true → ∀ i (hi : i < p.code.length), i < l + 1 → okI p.names.length p.code.length p.code[i] = true) := fun h i hi hij => by
            by_cases e : i = l
            · subst e; exact h
            · exact HL.out i hi (by omega)
          obtain ⟨W3, e3, k3, hz3, hb3⟩ := box1 wr (.cells #[.int .i64 p.code[l].op, .int .i64 p.code[l].arg] 60)
          have HK3 := Hid.mk k3
          have x0 : W3.cell? ⟨wr.heap.size, 0, none⟩ = some (.int .i64 p.code[l].op) := by simp [World.cell?, hb3]
          have x1 : W3.cell? ⟨wr.heap.size, 1, none⟩ = some (.int .i64 p.code[l].arg) := by simp [World.cell?, hb3]
          have x2 : W3.cell? ⟨g, 0, none⟩ = some (.slice a p.names.length c) := k3.cell_eq y3
          have x3 : W3.cell? ⟨g, 1, none⟩ = some (.slice (some ⟨b1, o1, none⟩) p.code.length d) := k3.cell_eq y4
          clear k3 hz3 hb3
          cases hk : okI p.names.length p.code.length p.code[l] with
          | false =>
            rw [hk] at HC
            obtain rfl : R = false := by rw [← HR.out]; exact HY.out hk
            clear HR HL HT hk HF HJ'
            generalize p.code[l].op = q1 at *
            generalize p.code[l].arg = q2 at *
            go_wp2_with fail
            refine (HC.out W3 (HKV.out.then HK3.out)).mono ?_
            rintro e w4 ⟨rfl, k4⟩
            go_wp2_with fail
            go_ret
            exact ⟨rfl, (HKV.out.then HK3.out).then k4⟩
          | true =>
            rw [hk] at HC
            have HT' := Hid.mk (HT.out hk)
            clear HL HT hk
            generalize p.code[l].op = q1 at *
            generalize p.code[l].arg = q2 at *
            go_wp2_with fail
            refine (HC.out W3 (HKV.out.then HK3.out)).mono ?_
            rintro e w4 ⟨rfl, k4⟩
            go_wp2_with fail
            go_roundw
            case rel => exact ⟨l + 1, Hid.mk ((HW2.out.then HK3.out).then k4), by go_num, by omega, HT'⟩
            case measure => simp [intOf]; omega
        · have hje2 : ¬ (l : Int) < (p.code.length : Int) := by omega
          have HL' : Hid (∀ i (hi : i < p.code.length), okI p.names.length p.code.length p.code[i] = true) := fun i hi => HL.out i hi (by omega)
          obtain rfl : R = true := by rw [← HR.out]; exact formed_yes (by omega) (by omega) HJ'.out HL'.out
          clear HL HR HL' HJ'
          go_wp2_with fail
          go_ret
          exact ⟨rfl, HKV.out⟩
end
end Go.Proofs.YtpodoiichpnpjaaDoor
