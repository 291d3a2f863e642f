/-
  All; same: eight numbers held against eight.
-/
import Derived.Test.YtbnakokadaifjaaAsk
namespace Go.Proofs.Ytbnakokadaifjaa
open Go.RowKit
set_option linter.unusedVariables false

/-- The first j of l, and noughts up to eight. -/
def upto8 (l : List Nat) (j : Nat) : List Nat := l.take j ++ List.replicate (8 - j) 0

theorem upto8_length (l : List Nat) (hl : l.length = 8) (j : Nat) (hj : j ≤ 8) : (upto8 l j).length = 8 := by simp [upto8]; omega
theorem upto8_set (l : List Nat) (hl : l.length = 8) (j : Nat) (hj : j < 8) : (upto8 l j).set j (l.getD j 0) = upto8 l (j + 1) := by
  have e1 : 8 - j = (8 - (j + 1)) + 1 := by omega
  have e2 : l.take (j + 1) = l.take j ++ [l.getD j 0] := by
    rw [List.getD_eq_getElem?_getD, List.getElem?_eq_getElem (by omega), List.take_succ_eq_append_getElem (by omega)]
    rfl
  unfold upto8
  rw [e2, e1, List.replicate_succ, List.set_append_right _ _ (by simp; omega)]
  simp only [List.length_take, hl, List.append_assoc, List.cons_append, List.nil_append]
  rw [show j - min j 8 = 0 by omega, List.set_cons_zero]
theorem upto8_all (l : List Nat) (hl : l.length = 8) : upto8 l 8 = l := by simp [upto8, ← hl]

theorem run_make8 (w : World) : (Instr.makeSlice 41 (.int .i64 8) (.int .i64 8)).run Try.prog w = .ok (.slice (some ⟨w.heap.size, 0, none⟩) 8 8) (w.alloc (.cells (C64 zeros).toArray 29)) := by kernel_rfl

set_option maxHeartbeats 400000 in
theorem all_any (p : Nat) (l : List Nat) (w : World) (hC : IsC w p l) :
    Calls Try.prog 12 #[.pointer (some ⟨p, 0, none⟩)] w fun e w' => e = .returned (.slice (some ⟨w.heap.size, 0, none⟩) 8 8) ∧ Row64 29 w' w.heap.size l ∧ Kept [] w w' := by
  have hmk := run_make8 w
  have hp := hC.row.lt
  have hl := hC.eight
  have hR0 : Row64 29 (w.alloc (.cells (C64 zeros).toArray 29)) w.heap.size (upto8 l 0) := heap_alloc_new w _
  have hK0 : Kept [] w (w.alloc (.cells (C64 zeros).toArray 29)) := (Kept.refl [] w).alloc _
  generalize (Obj.cells (C64 zeros).toArray 29) = O at hmk hR0 hK0
  have HL : Hid (l.length = 8) := hl
  clear hl
  go_enter Try.func12, Try.ntmps12
  go_wp2_with fail
  go_loopw [4, 10] (fun _ i wr => ∃ j : Nat, j ≤ 8 ∧ i = .int .i64 (j : Int) ∧ Row64 29 wr w.heap.size (upto8 l j) ∧ Kept [] w wr) (fun _ i _ => 8 - (intOf i).toNat)
  case atStart => exact ⟨0, by omega, rfl, hR0, hK0⟩
  case round =>
    clear hR0 hK0 hmk
    obtain ⟨j, hj, rfl, hR, hK⟩ := hrel
    by_cases hlt : j < 8
    · have hlt2 : (j : Int) < 8 := by omega
      have hg := get_yes p l j hlt wr (hC.kept hK (by simp))
      have hx : (upto8 l j)[j]? = some ((upto8 l j)[j]'(by rw [upto8_length l HL.out j hj]; exact hlt)) := by simp
      have hc := hR.cell hx
      have hz := hR.free j
      have hR2 := hR.set j (l.getD j 0)
      rw [upto8_set l HL.out j hlt] at hR2
      have hK2 := hK.setCell (p := ⟨w.heap.size, j, none⟩) (.inr (Nat.le_refl _)) (.int .u64 ((l.getD j 0 : Nat) : Int))
      generalize (upto8 l j)[j]'(by rw [upto8_length l HL.out j hj]; exact hlt) = y at hc
      generalize l.getD j 0 = x at hg hR2 hK2
      clear hx hR hK
      go_wp2_with (go_at_call 9; refine hg.mono ?_; rintro e w' ⟨rfl, rfl⟩)
      go_roundw
      case rel => exact ⟨j + 1, by omega, by go_num, hR2, hK2⟩
      case measure => simp [intOf]; omega
    · have hlt2 : ¬ (j : Int) < 8 := by omega
      have hj8 : j = 8 := by omega
      subst hj8
      rw [upto8_all l HL.out] at hR
      go_wp2
      go_ret
      exact ⟨rfl, hR, hK⟩

end Go.Proofs.Ytbnakokadaifjaa
