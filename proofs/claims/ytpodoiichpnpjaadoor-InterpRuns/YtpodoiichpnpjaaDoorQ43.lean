import Derived.Test.YtpodoiichpnpjaaDoorCards
import Derived.Test.YtpodoiichpnpjaaDoorTie
import Derived.Test.YtpodoiichpnpjaaDoorRows
import Derived.ProofKit
import Derived.LaidLaws
import Derived.Deep.DeepHandedRow
import Derived.Deep.DeepWitnessRowRef
import Derived.Test.YtpodoiichpnpjaaDoorQ06
/-
  One start that fits: the package's variables as their initialisers lay them.
-/
namespace Go.Proofs.YtpodoiichpnpjaaDoor
open Go.RowKit
set_option maxRecDepth 100000
def cellsD1 : DataW Unit → List Value
  | .lit (.int k n) => [.int k n]
  | .lit (.string s) => [.string ⟨s.toArray⟩]
  | _ => []
def cellsD2 : DataW Unit → List Value
  | .agg ps => ps.flatMap cellsD1
  | _ => []
def cellsD3 : DataW Unit → List Value
  | .agg ps => ps.flatMap cellsD2
  | _ => []
def reCells (cs : List Value) : Obj → Obj
  | .cells _ t frozen => .cells cs.toArray t frozen
  | o => o
/-- The settled world; the variable holds what its initialiser lays. -/
noncomputable def laidWorld (os : Os) : World :=
  let w0 := World.holding Tryd.prog os ⟨#[], #[], []⟩
  { w0 with heap := w0.heap.modify 0 (reCells (cellsD3 Rows.laid_reeve_code_operations)) }
theorem own : ownKnob Tryd.prog.godebug = none := by kernel_rfl
theorem laidOut : laidOutB Tryd.prog = true := by kernel_rfl
theorem laid_met (os : Os) (args : Array Value) : laidMet Tryd.prog [("reeve/code.operations", Rows.laid_reeve_code_operations)] ((laidWorld os).forCall (fun _ _ => 0) ⟨#[], args, []⟩).memory :=
  laidMet_of_run' 8 (by kernel_rfl) (by kernel_rfl)
theorem glob_ofH {W : World} (h : laidMetH Tryd.prog [("reeve/code.operations", Rows.laid_reeve_code_operations)] W) : Glob W := by
  have h0 : laidMet Tryd.prog [("reeve/code.operations", Rows.laid_reeve_code_operations)] W := by
    have e : ([("reeve/code.operations", Rows.laid_reeve_code_operations)].filter fun x : String × DataW Unit => x.2.handleName?.isSome) = [] := by kernel_rfl
    unfold laidMetH at h
    rw [e] at h
    exact h
  exact glob_of h0
end Go.Proofs.YtpodoiichpnpjaaDoor
