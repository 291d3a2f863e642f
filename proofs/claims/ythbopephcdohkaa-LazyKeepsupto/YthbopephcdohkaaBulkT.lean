/-
  A list of strings among the arguments: its texts, and what the bound gives of them.
-/
import Derived.Test.YthbopephcdohkaaBulk
import Derived.Test.YthbopephcdohkaaBackWalk
import Derived.SliceStrings
namespace Go.Proofs.Ythbopephcdohkaa
open Go.ChangeShapes Go.RowKit

theorem bulk_strs {H : Type} (ss : List ByteArray) : heavyT (ss.map fun s => s.data.toList) ≤ 9 * Rows.uptoBulkAll (strs (H := H) ss) := by
  unfold strs
  induction ss with
  | nil => simp [heavyT]
  | cons s r ih =>
    simp only [List.map_cons, Rows.uptoBulkAll, Rows.uptoBulk, heavyT] at ih ⊢
    omega

/-- A row of strings reads as texts. -/
theorem readsT_of_row (W : World) (x : Addr) (ss : List ByteArray) {len cap : Nat} (hl : len ≤ cap) (hm : cap ≤ maxLen) (hz : ss.length = cap) (hcell : ∀ i, i < ss.length → W.cell? (x.add i) = some (.string (ss.getD i ByteArray.empty))) :
    ReadsT W (.slice (some x) len cap) ((ss.take len).map fun s => s.data.toList) := by
  have hlen : ((ss.take len).map fun s => s.data.toList).length = len := by rw [List.length_map, List.length_take]; omega
  refine ⟨some x, cap, by rw [hlen], by omega, hm, by simp, fun hne => ?_⟩
  have hpos : 0 < len := by
    rcases Nat.eq_zero_or_pos len with h | h
    · subst h; simp at hne
    · exact h
  obtain ⟨b, o, spot⟩ := x
  have hc := hcell 0 (by omega)
  have hspot : spot = none := by simpa [Addr.add] using World.cell?_spot hc
  subst hspot
  refine ⟨b, o, rfl, fun j u hu => ?_⟩
  rw [List.getElem?_map, Option.map_eq_some_iff] at hu
  obtain ⟨z, hz1, rfl⟩ := hu
  have hj : j < len := by
    have := (List.getElem?_eq_some_iff.1 hz1).1
    rw [List.length_take] at this; omega
  rw [List.getElem?_take_of_lt hj] at hz1
  have h := hcell j (by omega)
  have hadd : (⟨b, o, Option.none⟩ : Addr).add j = ⟨b, o + j, Option.none⟩ := by unfold Addr.add; split <;> simp_all
  rw [hadd] at h
  rw [h]
  have hzz : ss.getD j ByteArray.empty = z := by simp [List.getD, hz1]
  rw [hzz]
  unfold T8
  cases z
  simp

end Go.Proofs.Ythbopephcdohkaa
