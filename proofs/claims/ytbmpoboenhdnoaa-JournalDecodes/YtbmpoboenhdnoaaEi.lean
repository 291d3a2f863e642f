/-
  Eight integers: as cells, and held against each other.
-/
import Derived.Test.YtbmpoboenhdnoaaJa
import Derived.ChangeKeysEq
namespace Go.Proofs.Ytbmpoboenhdnoaa
set_option maxRecDepth 100000
open Go.RowKit
set_option linter.unusedVariables false
theorem eight {A : List Int} (h : A.length = 8) : ∃ a0 a1 a2 a3 a4 a5 a6 a7, A = [a0, a1, a2, a3, a4, a5, a6, a7] := by
  match A, h with
  | [a0, a1, a2, a3, a4, a5, a6, a7], _ => exact ⟨a0, a1, a2, a3, a4, a5, a6, a7, rfl⟩
/-- Eight cells, one behind the other. -/
def Cells8 (W : World) (g : Nat) (a0 a1 a2 a3 a4 a5 a6 a7 : Int) : Prop := W.cell? ⟨g, 0, none⟩ = some (Iv a0) ∧ W.cell? ⟨g, 1, none⟩ = some (Iv a1) ∧ W.cell? ⟨g, 2, none⟩ = some (Iv a2) ∧ W.cell? ⟨g, 3, none⟩ = some (Iv a3) ∧ W.cell? ⟨g, 4, none⟩ = some (Iv a4) ∧ W.cell? ⟨g, 5, none⟩ = some (Iv a5) ∧ W.cell? ⟨g, 6, none⟩ = some (Iv a6) ∧ W.cell? ⟨g, 7, none⟩ = some (Iv a7)
theorem cells8 {W : World} {g : Nat} {A : List Int} {a0 a1 a2 a3 a4 a5 a6 a7 : Int} (hA : A = [a0, a1, a2, a3, a4, a5, a6, a7]) (h : ∀ i x, A[i]? = some x → W.cell? ⟨g, i, none⟩ = some (Iv x)) : Cells8 W g a0 a1 a2 a3 a4 a5 a6 a7 := by
  subst hA
  exact ⟨h 0 _ rfl, h 1 _ rfl, h 2 _ rfl, h 3 _ rfl, h 4 _ rfl, h 5 _ rfl, h 6 _ rfl, h 7 _ rfl⟩
theorem equal29 (a0 a1 a2 a3 a4 a5 a6 a7 : Int) (W : World) : (Op.equalIn 10000 29 (.agg #[Iv a0, Iv a1, Iv a2, Iv a3, Iv a4, Iv a5, Iv a6, Iv a7]) (.agg #[Iv a0, Iv a1, Iv a2, Iv a3, Iv a4, Iv a5, Iv a6, Iv a7])).run Try.prog W = .ok true W := by
  have hi : ∃ i, Try.prog.info? 2 = some i := Option.isSome_iff_exists.1 (by kernel_rfl)
  obtain ⟨i, hi⟩ := hi
  have hg : ∀ W : World, (isAgg 2).run Try.prog W = .ok false W := fun W => by kernel_rfl
  have he : ∀ (x : Int) (W : World), (Op.equalIn 9999 2 (.int .i64 x) (.int .i64 x)).run Try.prog W = .ok true W := fun x W => by
    rw [run_equalIn_int W 9998 2 .i64 _ x x Try.underlying2]; simp
  have hc : Try.prog.cellsOf 2 = 1 := by kernel_rfl
  have hr : List.range 8 = [0, 1, 2, 3, 4, 5, 6, 7] := by decide
  rw [run_equalIn_array W 9999 _ _ Try.underlying29 hi, hc, hr]
  simp [Op.eqItems, part, hg, he, go_sem]
end Go.Proofs.Ytbmpoboenhdnoaa
