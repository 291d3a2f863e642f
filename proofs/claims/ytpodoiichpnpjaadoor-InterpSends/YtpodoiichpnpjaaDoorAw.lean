/-
  awake, Few.
-/
import Derived.Test.YtpodoiichpnpjaaDoorRw
namespace Go.Proofs.YtpodoiichpnpjaaDoor
open Go.RowKit
set_option maxRecDepth 100000
set_option linter.unusedVariables false
/-- What Few answers. -/
def FewAt (p : Pg) (e : Ending) : Prop := (e = .returned (.bool true) ∧ (∀ s ∈ p.names, s.length ≤ 1000) ∧ p.names.length ≤ 51 ∧ p.code.length ≤ 1000) ∨ e = .returned (.bool false)
section
variable {w : World}
set_option maxHeartbeats 1000000 in
theorem few9 {v u : Value} {p : Pg} (hP : IsP w v u p) (hK : ∀ s ∈ p.names, s.length ≤ 9223372036854775807) : Calls Tryd.prog 16 #[.agg #[v, u]] w fun e w' => FewAt p e ∧ Kept [] w w' := by
  obtain ⟨a, c, b, d, rfl, rfl, hl1, hl2⟩ := hP.form
  obtain ⟨W0, e0, k0, hz0, hb0⟩ := box1 w (.cells #[.slice a p.names.length c, .slice b p.code.length d] 25)
  obtain ⟨y0, y1⟩ := cells2 hb0
  have HP := Hid.mk (hP.keep k0)
  have HK0 := Hid.mk k0
  have HKn := Hid.mk hK
  clear hP k0 hb0 hz0 hK
  go_enter Tryd.func16, Tryd.ntmps16
  go_wp2_with fail
  generalize w.heap.size = g at *
  go_loopw [7] (fun i wr => ∃ j : Nat, i = .int .i64 (j : Int) ∧ j ≤ p.names.length ∧ j ≤ 51 ∧ Hid (W0 = wr) ∧ Hid (∀ i (hi : i < p.names.length), i < j → p.names[i].length ≤ 1000)) (fun i _ => p.names.length - (intOf i).toNat)
  case atStart => exact ⟨0, rfl, by omega, by omega, Hid.mk rfl, Hid.mk (fun _ _ h => by omega)⟩
  case round =>
    obtain ⟨j, rfl, hj, hj51, HW, HJ⟩ := hrel
    obtain rfl := HW.out
    clear HW
    by_cases hlt : j < p.names.length
    · obtain ⟨b1, o1, rfl, hc1⟩ := names_at HP.out.names hlt
      have hjI : (j : Int) < (p.names.length : Int) := by omega
      have hj0 : (0 : Int) ≤ (j : Int) := by omega
      have hz : (⟨p.names[j].toArray⟩ : ByteArray).size = p.names[j].length := by simp [ByteArray.size]
      have hm := HKn.out _ (List.getElem_mem hlt)
      have HT : Hid (p.names[j].length ≤ 1000 → ∀ i (hi : i < p.names.length), i < j + 1 → p.names[i].length ≤ 1000) := fun h i hi hij => by
        by_cases e : i = j
        · subst e; exact h
        · exact HJ.out i hi (by omega)
      clear HJ
      generalize p.names[j] = nm at *
      by_cases h1 : 1000 < nm.length
      · have h1I : (1000 : Int) < (nm.length : Int) := by omega
        go_wp2_with fail
        go_ret
        exact ⟨.inr rfl, HK0.out⟩
      · have h1I : ¬ (1000 : Int) < (nm.length : Int) := by omega
        by_cases h2 : 50 < j
        · have h2I : (50 : Int) < (j : Int) := by omega
          go_wp2_with fail
          go_ret
          exact ⟨.inr rfl, HK0.out⟩
        · have h2I : ¬ (50 : Int) < (j : Int) := by omega
          go_wp2_with fail
          go_roundw
          case rel => exact ⟨j + 1, by go_num, by omega, by omega, by trivial, Hid.mk (HT.out (by omega))⟩
          case measure => simp [intOf]; omega
    · have hje : ¬ (j : Int) < (p.names.length : Int) := by omega
      by_cases h3 : p.code.length ≤ 1000
      · have h3I : (p.code.length : Int) ≤ 1000 := by omega
        go_wp2_with fail
        go_ret
        refine ⟨.inl ⟨rfl, fun s hs => ?_, by omega, h3⟩, HK0.out⟩
        obtain ⟨i, hi, rfl⟩ := List.getElem_of_mem hs
        exact HJ.out i hi (by omega)
      · have h3I : ¬ (p.code.length : Int) ≤ 1000 := by omega
        go_wp2_with fail
        go_ret
        exact ⟨.inr rfl, HK0.out⟩
end
end Go.Proofs.YtpodoiichpnpjaaDoor
