/-
  One start that fits: the package's variables as their initialisers lay them.
-/
import Derived.Test.YtibapmjgpnldgaaDoorCards
import Derived.Test.YtibapmjgpnldgaaDoorTie
import Derived.Test.YtibapmjgpnldgaaDoorRows
import Derived.ProofKit
import Derived.LaidLaws
import Derived.Deep.DeepHandedRow
import Derived.Deep.DeepWitnessRowRef
namespace Go.Proofs.YtibapmjgpnldgaaDoor
open Go.RowKit
set_option maxRecDepth 100000
def cellsD1 : DataW Unit → List Value
  | .lit (.int k n) => [.int k n]
  | .lit (.string s) => [.string ⟨s.toArray⟩]
  | _ => []
def cellsD2 : DataW Unit → List Value
  | .agg ps => ps.flatMap cellsD1
  | _ => []
def cellsD3 : DataW Unit → List Value
  | .agg ps => ps.flatMap cellsD2
  | _ => []
def textD : DataW Unit → Value
  | .iface _ (.ptr (.agg [.lit (.string s)])) => .string ⟨s.toArray⟩
  | _ => .string ⟨#[]⟩
/-- So many blocks has the settled world. -/
noncomputable def low : Nat := (World.holding Tryd.prog default ⟨#[], #[], []⟩).heap.size
def reCells (cs : List Value) : Obj → Obj
  | .cells _ t frozen => .cells cs.toArray t frozen
  | o => o
/-- The settled world with two blocks more, the errors' texts; the variables hold what their initialisers lay. -/
noncomputable def laidWorld (os : Os) : World :=
  let w0 := World.holding Tryd.prog os ⟨#[.cells #[textD Rows.laid_strconv_ErrSyntax] 164, .cells #[textD Rows.laid_strconv_ErrRange] 164], #[], []⟩
  { w0 with heap := (((((w0.heap.modify 0 (reCells (cellsD3 Rows.laid_reeve_code_operations))).modify 1 (reCells (cellsD2 Rows.laid_internal_strconv_uint64pow10))).modify 3 (reCells (cellsD2 Rows.laid_math_bits_deBruijn32tab))).modify 4 (reCells (cellsD2 Rows.laid_math_bits_deBruijn64tab))).modify 5 (reCells [.iface 162 (.pointer (some ⟨low, 0, none⟩))])).modify 6 (reCells [.iface 162 (.pointer (some ⟨low + 1, 0, none⟩))]) }
theorem own : ownKnob Tryd.prog.godebug = none := by kernel_rfl
theorem laidOut : laidOutB Tryd.prog = true := by kernel_rfl
theorem laid_met (os : Os) (args : Array Value) : laidMet Tryd.prog Rows.codePrintsRow.laid ((laidWorld os).forCall (fun _ _ => 0) ⟨#[], args, []⟩).memory :=
  laidMet_of_run' 8 (by kernel_rfl) (by kernel_rfl)
end Go.Proofs.YtibapmjgpnldgaaDoor
