/-
  The document's Hex.
-/
import Derived.Test.YtibapmjgpnldgaaDoorPr
import Derived.Test.YtibapmjgpnldgaaDoorTh
namespace Go.Proofs.YtibapmjgpnldgaaDoor
open Go.RowKit
set_option maxRecDepth 100000
set_option linter.unusedVariables false
theorem wideB (l : List UInt8) : Wide 1 (rowB l) := fun r hr => by
  obtain ⟨s, -, rfl⟩ := List.mem_map.1 hr
  exact ⟨rfl, fun u hu => by simp at hu; subst hu; rfl⟩
theorem rowB_append (a b : List UInt8) : rowB (a ++ b) = rowB a ++ rowB b := by simp [rowB]
theorem hex_at2 {d k : Nat} (e : k = d) (hd : d < 16) : ∀ h, (⟨#[48, 49, 50, 51, 52, 53, 54, 55, 56, 57, 97, 98, 99, 100, 101, 102]⟩ : ByteArray)[k]'h = hexC d := by
  subst e
  exact fun h => hex_at _ hd h
section
variable {w : World}
set_option maxHeartbeats 4000000 in
theorem hex27 (s : List UInt8) (hs : s.length ≤ 100000) : Calls Tryd.prog 27 #[.string ⟨s.toArray⟩] w fun e w' => e = .returned (.string ⟨(hexS s).toArray⟩) ∧ Kept [] w w' := by
  have hz : (⟨s.toArray⟩ : ByteArray).size = s.length := by simp [ByteArray.size]
  go_enter Tryd.func27, Tryd.ntmps27
  go_wp2_with fail
  go_loopw [3, 4] (fun v i wr => ∃ (j : Nat), Hid (Out 5 1 w wr v (rowB (hexS (s.take j)))) ∧ i = .int .i64 (j : Int) ∧ j ≤ s.length) (fun _ i _ => s.length - (intOf i).toNat)
  case atStart => exact ⟨0, Hid.mk (by simpa [hexS, rowB] using Out.nil (e := 5) (k := 1) (Kept.refl [] w)), rfl, by omega⟩
  case round =>
    obtain ⟨j, HO, rfl, hj⟩ := hrel
    by_cases hlt : j < s.length
    · have hjI : (j : Int) < (s.length : Int) := by omega
      have hj0 : (0 : Int) ≤ (j : Int) := by omega
      obtain ⟨c, hc⟩ : ∃ c, s[j]? = some c := ⟨s[j], by simp⟩
      have hA : ∀ h, (⟨s.toArray⟩ : ByteArray)[j]'h = c := fun h => byte_at hc h
      have hlt8 := c.toNat_lt
      have q1 : c.toNat / 16 < 16 := by omega
      have q2 : c.toNat % 16 < 16 := by omega
      have q3 : (c.toNat : Int) / 16 < 16 := by omega
      have q4 : (0 : Int) ≤ (c.toNat : Int) / 16 := by omega
      have q5 := and15 c.toNat hlt8
      have q6 : ((c.toNat % 16 : Nat) : Int) < 16 := by omega
      have q7 : (c.toNat : Int) % 16 < 16 := by omega
      have q8 : (0 : Int) ≤ (c.toNat : Int) % 16 := by omega
      have HX := Hid.mk (hexS_take hc)
      have h1 := hex_at2 (k := ((c.toNat : Int) / 16).toNat) (by omega) q1
      have h2 := hex_at2 (k := ((c.toNat : Int) % 16).toNat) (by omega) q2
      generalize hexC (c.toNat / 16) = x at *
      generalize hexC (c.toNat % 16) = y at *
      obtain ⟨W1, e1, k1, hz1, hb1⟩ := box1 wr (.cells #[B8 x, B8 y] 5)
      have hR : ReadsR 1 W1.drew (.slice (some ⟨wr.heap.size, 0, none⟩) 2 2) (rowB [x, y]) := (ownsR_block (n := 2) (rs := rowB [x, y]) hb1 (wideB _) rfl (by unfold maxLen; omega)).reads (wideB _)
      have hll : (rowB (hexS (s.take j))).length = 2 * j := by rw [rowB_length, hexS_length, List.length_take]; omega
      obtain ⟨ad, cc, w3, hrun, hO3⟩ := (HO.out.keep k1.drew).all rt45 _ _ (wideB _) hR (by rw [hll]; simp [rowB]; omega) 45
      rw [← rowB_append, ← HX.out] at hO3
      have HO3 := Hid.mk hO3
      rw [hll] at hrun HO3
      have e9 : 2 * j + (rowB [x, y]).length = 2 * j + 2 := rfl
      rw [e9] at hrun HO3
      rw [← e1] at hrun
      unfold B8 at hrun
      clear hc HX hO3 e9 hR hb1 hz1 k1 e1
      go_wp2_with fail
      go_region_law ((refine step_append_run 45 (.tmp 11) (.tmp 22) (by rfl) (by rfl) _ _ (by rfl) (by rfl) hrun ?_))
      all_goals
        go_wp2_with fail
        go_roundw
        case rel => exact ⟨j + 1, HO3, by go_num, by omega⟩
        case measure => simp [intOf]; omega
    · have hjI : ¬ (j : Int) < (s.length : Int) := by omega
      obtain rfl : j = s.length := by omega
      have hO := HO.out
      rw [List.take_length] at hO
      have hcv := string_of (P := Tryd.prog) 45 5 Tryd.underlying45 9 Tryd.underlying5 Tryd.underlying9 u3 (hexS s) wr hO.bytes.reads
      clear hO
      go_wp2_with fail
      go_ret
      exact ⟨rfl, HO.out.kept⟩
end
end Go.Proofs.YtibapmjgpnldgaaDoor
