/-
  NARROWER THAN 'FOR EVERY INPUT', by the rows' own cells (each row's printed sentence says how): TurnTakes: laid · TurnLetters: laid · TurnNil: laid · TurnCopies: laid.
  DERIVED. THE GIVEN ROWS OF THIS SEAT. 4 by the template 'for every input the law returns true; each argument reads behind the call as it read before'; 0 by the template 'total and deterministic' (their statements: YtngnenbidpojeaaGreatDoorTotals.lean).
  GIVEN WITH THE SEED: the statements are not yours to turn. If you find one false, say at which input.
  Laid BY PROGRAM, IN A SANDBOX (cutbox-rows.mjs): the forced cells as the released guide's own fill.sh prints them over the translation a62e6b7ce2495e5d… (all of the seat's roots in one cut). By AI agents, Wed Nov 11 2026. No macro, syntax, notation, axiom, sorry.
-/
import Derived.Test.YtngnenbidpojeaaGreatDoorChecked
import GoSem.Claim
import GoSem.ClaimJoined
import GoSem.ClaimMapViews
import Derived.JoinedTies
import Derived.KernelRfl
namespace Go.Proofs.YtngnenbidpojeaaGreatDoor
/- THE CELL 'sum', in the pinned program and in every row, IS THE sha256 OF THE DUMP (.gsa) THAT YtngnenbidpojeaaGreatDoorProg.lean LOADS. Nothing in Lean hashes anything: it is a label: what it is worth is what the hold of that sum in a sandbox is worth. -/
noncomputable def Tryz.pinned : Pinned := { name := "ytngnenbidpojeaagreatdoor", sum := "a62e6b7ce2495e5d38757fd52840717e9f5adeae30ef4630626da8af24512012", checked := Tryz.checked }
namespace Rows
def none {H : Type} : Left H := { results := [], args := [] }

/- WHAT THE LISTED PACKAGE-LEVEL VARIABLES READ AS WHEN THE CALL BEGINS. Each datum BY PROGRAM (the guide's laid-datum.mjs) off the statement by which the dump's own 'gosem.cut.vars' lays the variable. In a bare row this is a premise. The card (YtngnenbidpojeaaGreatDoorCards.lean) ties it to the program's text. -/
def laid_reeve_code_operations {H : Type} : DataW H := .agg [.agg [.lit (.string [104, 97, 108, 116]), .lit (.int .i64 0)], .agg [.lit (.string [112, 117, 115, 104]), .lit (.int .i64 1)], .agg [.lit (.string [108, 111, 97, 100]), .lit (.int .i64 2)], .agg [.lit (.string [115, 116, 111, 114, 101]), .lit (.int .i64 2)], .agg [.lit (.string [97, 114, 103]), .lit (.int .i64 3)], .agg [.lit (.string [107, 105, 110, 100]), .lit (.int .i64 0)], .agg [.lit (.string [97, 100, 100]), .lit (.int .i64 0)], .agg [.lit (.string [115, 117, 98]), .lit (.int .i64 0)], .agg [.lit (.string [109, 117, 108]), .lit (.int .i64 0)], .agg [.lit (.string [108, 101, 115, 115]), .lit (.int .i64 0)], .agg [.lit (.string [101, 113, 117, 97, 108]), .lit (.int .i64 0)], .agg [.lit (.string [110, 111, 116]), .lit (.int .i64 0)], .agg [.lit (.string [100, 117, 112]), .lit (.int .i64 0)], .agg [.lit (.string [100, 114, 111, 112]), .lit (.int .i64 0)], .agg [.lit (.string [115, 119, 97, 112]), .lit (.int .i64 0)], .agg [.lit (.string [106, 117, 109, 112]), .lit (.int .i64 4)], .agg [.lit (.string [106, 117, 109, 112, 122]), .lit (.int .i64 4)], .agg [.lit (.string [115, 101, 110, 100]), .lit (.int .i64 5)], .agg [.lit (.string [114, 101, 112, 108, 121]), .lit (.int .i64 0)], .agg [.lit (.string [114, 101, 109, 105, 110, 100]), .lit (.int .i64 5)], .agg [.lit (.string [99, 97, 110, 99, 101, 108]), .lit (.int .i64 5)], .agg [.lit (.string [102, 97, 105, 108]), .lit (.int .i64 0)], .agg [.lit (.string [110, 111, 119]), .lit (.int .i64 0)], .agg [.lit (.string [115, 101, 114, 105, 97, 108]), .lit (.int .i64 0)]]

/-- 'reevelaw20.TurnTakes': WHATEVER THE INPUT: true; the input reads as it did. -/
def turnTakesSpec : ChangeSpec := { name := "turnTakes", fn := fun _ => fun
  | [d1, d2, d3, d4] => { results := [.lit (.bool true)], args := [d1, d2, d3, d4] }
  | _ => none }
def turnTakesRow : OpenClaim := { program := "ytngnenbidpojeaagreatdoor", sum := "a62e6b7ce2495e5d38757fd52840717e9f5adeae30ef4630626da8af24512012", func := "reeve/reevelaw20.TurnTakes", spec := "turnTakes", inPlace := ["internal/bytealg.abigen_runtime_cmpstring"], unfollowed := true, recurses := true, named := ["reeve/code.operations"], apart := false, laid := [("reeve/code.operations", laid_reeve_code_operations)] }
def TurnTakesSaid : Prop := turnTakesRow.holds Tryz.pinned (OpenSpec.ofChange turnTakesSpec)

/-- ITS FALSE NEIGHBOUR: 'it returns false'. Refute it at one input. -/
def turnTakesWrong : ChangeSpec := { name := "turnTakes", fn := fun _ => fun
  | [d1, d2, d3, d4] => { results := [.lit (.bool false)], args := [d1, d2, d3, d4] }
  | _ => none }
def TurnTakesWrongFalsely : Prop := turnTakesRow.holds Tryz.pinned (OpenSpec.ofChange turnTakesWrong)

/-- 'reevelaw20.TurnLetters': WHATEVER THE INPUT: true; the input reads as it did. -/
def turnLettersSpec : ChangeSpec := { name := "turnLetters", fn := fun _ => fun
  | [d1, d2, d3] => { results := [.lit (.bool true)], args := [d1, d2, d3] }
  | _ => none }
def turnLettersRow : OpenClaim := { program := "ytngnenbidpojeaagreatdoor", sum := "a62e6b7ce2495e5d38757fd52840717e9f5adeae30ef4630626da8af24512012", func := "reeve/reevelaw20.TurnLetters", spec := "turnLetters", inPlace := ["internal/bytealg.abigen_runtime_cmpstring"], unfollowed := true, recurses := true, named := ["reeve/code.operations"], apart := false, laid := [("reeve/code.operations", laid_reeve_code_operations)] }
def TurnLettersSaid : Prop := turnLettersRow.holds Tryz.pinned (OpenSpec.ofChange turnLettersSpec)

/-- ITS FALSE NEIGHBOUR: 'it returns false'. Refute it at one input. -/
def turnLettersWrong : ChangeSpec := { name := "turnLetters", fn := fun _ => fun
  | [d1, d2, d3] => { results := [.lit (.bool false)], args := [d1, d2, d3] }
  | _ => none }
def TurnLettersWrongFalsely : Prop := turnLettersRow.holds Tryz.pinned (OpenSpec.ofChange turnLettersWrong)

/-- 'reevelaw20.TurnNil': WHATEVER THE INPUT: true; the input reads as it did. -/
def turnNilSpec : ChangeSpec := { name := "turnNil", fn := fun _ => fun
  | [d1, d2] => { results := [.lit (.bool true)], args := [d1, d2] }
  | _ => none }
def turnNilRow : OpenClaim := { program := "ytngnenbidpojeaagreatdoor", sum := "a62e6b7ce2495e5d38757fd52840717e9f5adeae30ef4630626da8af24512012", func := "reeve/reevelaw20.TurnNil", spec := "turnNil", inPlace := ["internal/bytealg.abigen_runtime_cmpstring"], unfollowed := true, recurses := true, named := ["reeve/code.operations"], apart := false, laid := [("reeve/code.operations", laid_reeve_code_operations)] }
def TurnNilSaid : Prop := turnNilRow.holds Tryz.pinned (OpenSpec.ofChange turnNilSpec)

/-- ITS FALSE NEIGHBOUR: 'it returns false'. Refute it at one input. -/
def turnNilWrong : ChangeSpec := { name := "turnNil", fn := fun _ => fun
  | [d1, d2] => { results := [.lit (.bool false)], args := [d1, d2] }
  | _ => none }
def TurnNilWrongFalsely : Prop := turnNilRow.holds Tryz.pinned (OpenSpec.ofChange turnNilWrong)

/-- 'reevelaw20.TurnCopies': WHATEVER THE INPUT: true; the input reads as it did. -/
def turnCopiesSpec : ChangeSpec := { name := "turnCopies", fn := fun _ => fun
  | [d1, d2, d3] => { results := [.lit (.bool true)], args := [d1, d2, d3] }
  | _ => none }
def turnCopiesRow : OpenClaim := { program := "ytngnenbidpojeaagreatdoor", sum := "a62e6b7ce2495e5d38757fd52840717e9f5adeae30ef4630626da8af24512012", func := "reeve/reevelaw20.TurnCopies", spec := "turnCopies", inPlace := ["internal/bytealg.abigen_runtime_cmpstring"], unfollowed := true, recurses := true, named := ["reeve/code.operations"], apart := false, laid := [("reeve/code.operations", laid_reeve_code_operations)] }
def TurnCopiesSaid : Prop := turnCopiesRow.holds Tryz.pinned (OpenSpec.ofChange turnCopiesSpec)

/-- ITS FALSE NEIGHBOUR: 'it returns false'. Refute it at one input. -/
def turnCopiesWrong : ChangeSpec := { name := "turnCopies", fn := fun _ => fun
  | [d1, d2, d3] => { results := [.lit (.bool false)], args := [d1, d2, d3] }
  | _ => none }
def TurnCopiesWrongFalsely : Prop := turnCopiesRow.holds Tryz.pinned (OpenSpec.ofChange turnCopiesWrong)

/- THE SECOND FORM. 'bulk': how many values and letters a reading holds, each counted each time it is reached (what is shared counts as often as it is met; a slice's spare places count too). A statement '..UptoSaid' is the law's where the arguments, and the package variables that the reading takes, are together of bulk at most 1048576: NARROWER than '..Said'. Prove '..Said' where nothing that the law and all that it calls make is longer than what came in: it says more and counts as full. Else prove '..UptoSaid'. A law counts once. -/
mutual
def uptoBulk {H : Type} : DataW H → Nat
  | .lit (.string bytes) => bytes.length + 1
  | .lit _ => 1
  | .nil => 1
  | .ptr d => uptoBulk d + 1
  | .slice elems spare => uptoBulkAll elems + uptoBulkAll spare + 1
  | .agg parts => uptoBulkAll parts + 1
  | .iface _ d => uptoBulk d + 1
  | .map entries => uptoBulkEntries entries + 1
  | .held _ => 1
def uptoBulkAll {H : Type} : List (DataW H) → Nat
  | [] => 0
  | d :: r => uptoBulk d + uptoBulkAll r
def uptoBulkEntries {H : Type} : List (Lit × DataW H) → Nat
  | [] => 0
  | x :: r => uptoBulkEntry x + uptoBulkEntries r
def uptoBulkEntry {H : Type} : Lit × DataW H → Nat
  | (.string bytes, d) => bytes.length + uptoBulk d + 1
  | (_, d) => uptoBulk d + 1
 end
def uptoSmall : (H : Type) → List (DataW H) → Bool := fun _ ds => decide (uptoBulkAll ds ≤ 1048576)
def OpenSpec.upto (s : _root_.Go.ChangeSpec) : _root_.Go.OpenSpec := { _root_.Go.OpenSpec.ofChange s with cond := some uptoSmall }

/-- 'reevelaw20.TurnTakes', WHERE WHAT IT READS IS OF BULK AT MOST 1048576: true; the input reads as it did. -/
def turnTakesUptoRow : OpenClaim := { program := "ytngnenbidpojeaagreatdoor", sum := "a62e6b7ce2495e5d38757fd52840717e9f5adeae30ef4630626da8af24512012", func := "reeve/reevelaw20.TurnTakes", spec := "turnTakes", inPlace := ["internal/bytealg.abigen_runtime_cmpstring"], unfollowed := true, recurses := true, named := ["reeve/code.operations"], apart := false, laid := [("reeve/code.operations", laid_reeve_code_operations)], narrowed := true }
def TurnTakesUptoSaid : Prop := turnTakesUptoRow.holds Tryz.pinned (OpenSpec.upto turnTakesSpec)

/-- 'reevelaw20.TurnLetters', WHERE WHAT IT READS IS OF BULK AT MOST 1048576: true; the input reads as it did. -/
def turnLettersUptoRow : OpenClaim := { program := "ytngnenbidpojeaagreatdoor", sum := "a62e6b7ce2495e5d38757fd52840717e9f5adeae30ef4630626da8af24512012", func := "reeve/reevelaw20.TurnLetters", spec := "turnLetters", inPlace := ["internal/bytealg.abigen_runtime_cmpstring"], unfollowed := true, recurses := true, named := ["reeve/code.operations"], apart := false, laid := [("reeve/code.operations", laid_reeve_code_operations)], narrowed := true }
def TurnLettersUptoSaid : Prop := turnLettersUptoRow.holds Tryz.pinned (OpenSpec.upto turnLettersSpec)

/-- 'reevelaw20.TurnNil', WHERE WHAT IT READS IS OF BULK AT MOST 1048576: true; the input reads as it did. -/
def turnNilUptoRow : OpenClaim := { program := "ytngnenbidpojeaagreatdoor", sum := "a62e6b7ce2495e5d38757fd52840717e9f5adeae30ef4630626da8af24512012", func := "reeve/reevelaw20.TurnNil", spec := "turnNil", inPlace := ["internal/bytealg.abigen_runtime_cmpstring"], unfollowed := true, recurses := true, named := ["reeve/code.operations"], apart := false, laid := [("reeve/code.operations", laid_reeve_code_operations)], narrowed := true }
def TurnNilUptoSaid : Prop := turnNilUptoRow.holds Tryz.pinned (OpenSpec.upto turnNilSpec)

/-- 'reevelaw20.TurnCopies', WHERE WHAT IT READS IS OF BULK AT MOST 1048576: true; the input reads as it did. -/
def turnCopiesUptoRow : OpenClaim := { program := "ytngnenbidpojeaagreatdoor", sum := "a62e6b7ce2495e5d38757fd52840717e9f5adeae30ef4630626da8af24512012", func := "reeve/reevelaw20.TurnCopies", spec := "turnCopies", inPlace := ["internal/bytealg.abigen_runtime_cmpstring"], unfollowed := true, recurses := true, named := ["reeve/code.operations"], apart := false, laid := [("reeve/code.operations", laid_reeve_code_operations)], narrowed := true }
def TurnCopiesUptoSaid : Prop := turnCopiesUptoRow.holds Tryz.pinned (OpenSpec.upto turnCopiesSpec)

end Rows
end Go.Proofs.YtngnenbidpojeaaGreatDoor
