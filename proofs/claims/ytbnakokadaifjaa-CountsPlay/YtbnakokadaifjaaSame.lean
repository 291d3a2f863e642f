/-
  same: eight numbers held against eight.
-/
import Derived.Test.YtbnakokadaifjaaAll
namespace Go.Proofs.Ytbnakokadaifjaa
open Go.RowKit
set_option linter.unusedVariables false

theorem Kept.drewN {S : List Nat} {a w : World} (h : Kept S a w) (n : Nat) : Kept S a (w.drewN n) := ⟨h.os, h.tape, h.output, h.size, h.block⟩

set_option maxHeartbeats 400000 in
theorem same_yes (g : Nat) (l : List Nat) (hl : l.length = 8) (w : World) (hR : Row64 29 w g l) :
    Calls Try.prog 11 #[.slice (some ⟨g, 0, none⟩) 8 8, .agg (C64 l).toArray] w fun e w' => e = .returned (.bool true) ∧ Kept [] w w' := by
  have hb : Row64 35 (w.alloc (.cells (C64 l).toArray 35)) w.heap.size l := heap_alloc_new w _
  have ha : Row64 29 (w.alloc (.cells (C64 l).toArray 35)) g l := hR.kept ((Kept.refl [] w).alloc _) (by simp)
  have hK : Kept [] w (w.alloc (.cells (C64 l).toArray 35)) := (Kept.refl [] w).alloc _
  have HL : Hid (l.length = 8) := hl
  generalize hC : (C64 l).toArray = C at *
  clear hl
  go_enter Try.func11, Try.ntmps11
  go_wp2_with fail
  go_loopw [5, 9] (fun _ i wr => ∃ j : Nat, j ≤ 8 ∧ i = .int .i64 (j : Int) ∧ Row64 29 wr g l ∧ Row64 35 wr w.heap.size l ∧ Kept [] w wr) (fun _ i _ => 8 - (intOf i).toNat)
  case atStart => exact ⟨0, by omega, rfl, ha, hb, hK⟩
  case round =>
    clear ha hb hK
    obtain ⟨j, hj, rfl, ha, hb, hK⟩ := hrel
    by_cases hlt : j < 8
    · have hlt2 : (j : Int) < 8 := by omega
      obtain ⟨x, hx⟩ : ∃ x, l[j]? = some x := ⟨l[j]'(by rw [HL.out]; exact hlt), by simp⟩
      have c1 := ha.cell hx
      have c2 := hb.cell hx
      clear hx
      go_wp2_with fail
      go_quiet (fail)
      go_wp2
      go_roundw
      case rel => exact ⟨j + 1, by omega, by go_num, ha, hb, hK.drewN _⟩
      case measure => simp [intOf]; omega
    · have hlt2 : ¬ (j : Int) < 8 := by omega
      go_wp2
      go_ret
      exact ⟨rfl, hK⟩

end Go.Proofs.Ytbnakokadaifjaa
