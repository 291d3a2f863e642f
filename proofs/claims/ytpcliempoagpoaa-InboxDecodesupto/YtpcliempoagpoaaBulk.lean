/-
  What the bound of the second form gives of bytes.
-/
import Derived.Test.YtpcliempoagpoaaRows
import Derived.ChangeSlices
namespace Go.Proofs.Ytpcliempoagpoaa
open Go.ChangeShapes
theorem bulk_lits {H : Type} (k : IntKind) (zs : List Int) : Rows.uptoBulkAll (lits (H := H) k zs) = zs.length := by
  unfold lits
  induction zs with
  | nil => simp [Rows.uptoBulkAll]
  | cons z r ih =>
    simp only [List.map_cons, Rows.uptoBulkAll, Rows.uptoBulk, ih, List.length_cons]
    omega
/-- What the bound gives. -/
theorem small_of {H : Type} {l : List (DataW H)} (hk : Rows.uptoSmall H l = true) : Rows.uptoBulkAll l ≤ 1048576 := of_decide_eq_true hk
end Go.Proofs.Ytpcliempoagpoaa
