/-
  NARROWER THAN 'FOR EVERY INPUT', by the rows' own cells (each row's printed sentence says how): InterpRuns: laid · InterpEvents: laid · InterpLoops: laid · InterpStack: laid · InterpSends: laid · InterpTimers: laid.
  DERIVED. THE GIVEN ROWS OF THIS SEAT. 6 by the template 'for every input the law returns true; each argument reads behind the call as it read before'; 0 by the template 'total and deterministic' (their statements: YtpodoiichpnpjaaDoorTotals.lean).
  GIVEN WITH THE SEED: the statements are not yours to turn. If you find one false, say at which input.
  Laid BY PROGRAM, IN A SANDBOX (cutbox-rows.mjs): the forced cells as the released guide's own fill.sh prints them over the translation 68b2308622e665ca… (all of the seat's roots in one cut). By AI agents, Wed Nov 11 2026. No macro, syntax, notation, axiom, sorry.
-/
import Derived.Test.YtpodoiichpnpjaaDoorChecked
import GoSem.Claim
import GoSem.ClaimJoined
import GoSem.ClaimMapViews
import Derived.JoinedTies
import Derived.KernelRfl
namespace Go.Proofs.YtpodoiichpnpjaaDoor
/- THE CELL 'sum', in the pinned program and in every row, IS THE sha256 OF THE DUMP (.gsa) THAT YtpodoiichpnpjaaDoorProg.lean LOADS. Nothing in Lean hashes anything: it is a label: what it is worth is what the hold of that sum in a sandbox is worth. -/
noncomputable def Tryd.pinned : Pinned := { name := "ytpodoiichpnpjaadoor", sum := "68b2308622e665caf608cbbbfbd4c059c05b72e6fcc4053454b9d8e08dafc01d", checked := Tryd.checked }
namespace Rows
def none {H : Type} : Left H := { results := [], args := [] }

/- WHAT THE LISTED PACKAGE-LEVEL VARIABLES READ AS WHEN THE CALL BEGINS. Each datum BY PROGRAM (the guide's laid-datum.mjs) off the statement by which the dump's own 'gosem.cut.vars' lays the variable. In a bare row this is a premise. The card (YtpodoiichpnpjaaDoorCards.lean) ties it to the program's text. -/
def laid_reeve_code_operations {H : Type} : DataW H := .agg [.agg [.lit (.string [104, 97, 108, 116]), .lit (.int .i64 0)], .agg [.lit (.string [112, 117, 115, 104]), .lit (.int .i64 1)], .agg [.lit (.string [108, 111, 97, 100]), .lit (.int .i64 2)], .agg [.lit (.string [115, 116, 111, 114, 101]), .lit (.int .i64 2)], .agg [.lit (.string [97, 114, 103]), .lit (.int .i64 3)], .agg [.lit (.string [107, 105, 110, 100]), .lit (.int .i64 0)], .agg [.lit (.string [97, 100, 100]), .lit (.int .i64 0)], .agg [.lit (.string [115, 117, 98]), .lit (.int .i64 0)], .agg [.lit (.string [109, 117, 108]), .lit (.int .i64 0)], .agg [.lit (.string [108, 101, 115, 115]), .lit (.int .i64 0)], .agg [.lit (.string [101, 113, 117, 97, 108]), .lit (.int .i64 0)], .agg [.lit (.string [110, 111, 116]), .lit (.int .i64 0)], .agg [.lit (.string [100, 117, 112]), .lit (.int .i64 0)], .agg [.lit (.string [100, 114, 111, 112]), .lit (.int .i64 0)], .agg [.lit (.string [115, 119, 97, 112]), .lit (.int .i64 0)], .agg [.lit (.string [106, 117, 109, 112]), .lit (.int .i64 4)], .agg [.lit (.string [106, 117, 109, 112, 122]), .lit (.int .i64 4)], .agg [.lit (.string [115, 101, 110, 100]), .lit (.int .i64 5)], .agg [.lit (.string [114, 101, 112, 108, 121]), .lit (.int .i64 0)], .agg [.lit (.string [114, 101, 109, 105, 110, 100]), .lit (.int .i64 5)], .agg [.lit (.string [99, 97, 110, 99, 101, 108]), .lit (.int .i64 5)], .agg [.lit (.string [102, 97, 105, 108]), .lit (.int .i64 0)], .agg [.lit (.string [110, 111, 119]), .lit (.int .i64 0)], .agg [.lit (.string [115, 101, 114, 105, 97, 108]), .lit (.int .i64 0)]]

/-- 'reevelaw18.InterpRuns': WHATEVER THE INPUT: true; the input reads as it did. -/
def interpRunsSpec : ChangeSpec := { name := "interpRuns", fn := fun _ => fun
  | [d1, d2, d3, d4] => { results := [.lit (.bool true)], args := [d1, d2, d3, d4] }
  | _ => none }
def interpRunsRow : OpenClaim := { program := "ytpodoiichpnpjaadoor", sum := "68b2308622e665caf608cbbbfbd4c059c05b72e6fcc4053454b9d8e08dafc01d", func := "reeve/reevelaw18.InterpRuns", spec := "interpRuns", named := ["reeve/code.operations"], apart := false, laid := [("reeve/code.operations", laid_reeve_code_operations)] }
def InterpRunsSaid : Prop := interpRunsRow.holds Tryd.pinned (OpenSpec.ofChange interpRunsSpec)

/-- ITS FALSE NEIGHBOUR: 'it returns false'. Refute it at one input. -/
def interpRunsWrong : ChangeSpec := { name := "interpRuns", fn := fun _ => fun
  | [d1, d2, d3, d4] => { results := [.lit (.bool false)], args := [d1, d2, d3, d4] }
  | _ => none }
def InterpRunsWrongFalsely : Prop := interpRunsRow.holds Tryd.pinned (OpenSpec.ofChange interpRunsWrong)

/-- 'reevelaw18.InterpEvents': WHATEVER THE INPUT: true; the input reads as it did. -/
def interpEventsSpec : ChangeSpec := { name := "interpEvents", fn := fun _ => fun
  | [d1, d2, d3, d4] => { results := [.lit (.bool true)], args := [d1, d2, d3, d4] }
  | _ => none }
def interpEventsRow : OpenClaim := { program := "ytpodoiichpnpjaadoor", sum := "68b2308622e665caf608cbbbfbd4c059c05b72e6fcc4053454b9d8e08dafc01d", func := "reeve/reevelaw18.InterpEvents", spec := "interpEvents", named := ["reeve/code.operations"], apart := false, laid := [("reeve/code.operations", laid_reeve_code_operations)] }
def InterpEventsSaid : Prop := interpEventsRow.holds Tryd.pinned (OpenSpec.ofChange interpEventsSpec)

/-- ITS FALSE NEIGHBOUR: 'it returns false'. Refute it at one input. -/
def interpEventsWrong : ChangeSpec := { name := "interpEvents", fn := fun _ => fun
  | [d1, d2, d3, d4] => { results := [.lit (.bool false)], args := [d1, d2, d3, d4] }
  | _ => none }
def InterpEventsWrongFalsely : Prop := interpEventsRow.holds Tryd.pinned (OpenSpec.ofChange interpEventsWrong)

/-- 'reevelaw18.InterpLoops': WHATEVER THE INPUT: true; the input reads as it did. -/
def interpLoopsSpec : ChangeSpec := { name := "interpLoops", fn := fun _ => fun
  | [d] => { results := [.lit (.bool true)], args := [d] }
  | _ => none }
def interpLoopsRow : OpenClaim := { program := "ytpodoiichpnpjaadoor", sum := "68b2308622e665caf608cbbbfbd4c059c05b72e6fcc4053454b9d8e08dafc01d", func := "reeve/reevelaw18.InterpLoops", spec := "interpLoops", named := ["reeve/code.operations"], apart := false, laid := [("reeve/code.operations", laid_reeve_code_operations)] }
def InterpLoopsSaid : Prop := interpLoopsRow.holds Tryd.pinned (OpenSpec.ofChange interpLoopsSpec)

/-- ITS FALSE NEIGHBOUR: 'it returns false'. Refute it at one input. -/
def interpLoopsWrong : ChangeSpec := { name := "interpLoops", fn := fun _ => fun
  | [d] => { results := [.lit (.bool false)], args := [d] }
  | _ => none }
def InterpLoopsWrongFalsely : Prop := interpLoopsRow.holds Tryd.pinned (OpenSpec.ofChange interpLoopsWrong)

/-- 'reevelaw18.InterpStack': WHATEVER THE INPUT: true; the input reads as it did. -/
def interpStackSpec : ChangeSpec := { name := "interpStack", fn := fun _ => fun
  | [d1, d2] => { results := [.lit (.bool true)], args := [d1, d2] }
  | _ => none }
def interpStackRow : OpenClaim := { program := "ytpodoiichpnpjaadoor", sum := "68b2308622e665caf608cbbbfbd4c059c05b72e6fcc4053454b9d8e08dafc01d", func := "reeve/reevelaw18.InterpStack", spec := "interpStack", named := ["reeve/code.operations"], apart := false, laid := [("reeve/code.operations", laid_reeve_code_operations)] }
def InterpStackSaid : Prop := interpStackRow.holds Tryd.pinned (OpenSpec.ofChange interpStackSpec)

/-- ITS FALSE NEIGHBOUR: 'it returns false'. Refute it at one input. -/
def interpStackWrong : ChangeSpec := { name := "interpStack", fn := fun _ => fun
  | [d1, d2] => { results := [.lit (.bool false)], args := [d1, d2] }
  | _ => none }
def InterpStackWrongFalsely : Prop := interpStackRow.holds Tryd.pinned (OpenSpec.ofChange interpStackWrong)

/-- 'reevelaw18.InterpSends': WHATEVER THE INPUT: true; the input reads as it did. -/
def interpSendsSpec : ChangeSpec := { name := "interpSends", fn := fun _ => fun
  | [d1, d2, d3, d4] => { results := [.lit (.bool true)], args := [d1, d2, d3, d4] }
  | _ => none }
def interpSendsRow : OpenClaim := { program := "ytpodoiichpnpjaadoor", sum := "68b2308622e665caf608cbbbfbd4c059c05b72e6fcc4053454b9d8e08dafc01d", func := "reeve/reevelaw18.InterpSends", spec := "interpSends", named := ["reeve/code.operations"], apart := false, laid := [("reeve/code.operations", laid_reeve_code_operations)] }
def InterpSendsSaid : Prop := interpSendsRow.holds Tryd.pinned (OpenSpec.ofChange interpSendsSpec)

/-- ITS FALSE NEIGHBOUR: 'it returns false'. Refute it at one input. -/
def interpSendsWrong : ChangeSpec := { name := "interpSends", fn := fun _ => fun
  | [d1, d2, d3, d4] => { results := [.lit (.bool false)], args := [d1, d2, d3, d4] }
  | _ => none }
def InterpSendsWrongFalsely : Prop := interpSendsRow.holds Tryd.pinned (OpenSpec.ofChange interpSendsWrong)

/-- 'reevelaw18.InterpTimers': WHATEVER THE INPUT: true; the input reads as it did. -/
def interpTimersSpec : ChangeSpec := { name := "interpTimers", fn := fun _ => fun
  | [d1, d2, d3, d4] => { results := [.lit (.bool true)], args := [d1, d2, d3, d4] }
  | _ => none }
def interpTimersRow : OpenClaim := { program := "ytpodoiichpnpjaadoor", sum := "68b2308622e665caf608cbbbfbd4c059c05b72e6fcc4053454b9d8e08dafc01d", func := "reeve/reevelaw18.InterpTimers", spec := "interpTimers", named := ["reeve/code.operations"], apart := false, laid := [("reeve/code.operations", laid_reeve_code_operations)] }
def InterpTimersSaid : Prop := interpTimersRow.holds Tryd.pinned (OpenSpec.ofChange interpTimersSpec)

/-- ITS FALSE NEIGHBOUR: 'it returns false'. Refute it at one input. -/
def interpTimersWrong : ChangeSpec := { name := "interpTimers", fn := fun _ => fun
  | [d1, d2, d3, d4] => { results := [.lit (.bool false)], args := [d1, d2, d3, d4] }
  | _ => none }
def InterpTimersWrongFalsely : Prop := interpTimersRow.holds Tryd.pinned (OpenSpec.ofChange interpTimersWrong)

/- THE SECOND FORM. 'bulk': how many values and letters a reading holds, each counted each time it is reached (what is shared counts as often as it is met; a slice's spare places count too). A statement '..UptoSaid' is the law's where the arguments, and the package variables that the reading takes, are together of bulk at most 1048576: NARROWER than '..Said'. Prove '..Said' where nothing that the law and all that it calls make is longer than what came in: it says more and counts as full. Else prove '..UptoSaid'. A law counts once. -/
mutual
def uptoBulk {H : Type} : DataW H → Nat
  | .lit (.string bytes) => bytes.length + 1
  | .lit _ => 1
  | .nil => 1
  | .ptr d => uptoBulk d + 1
  | .slice elems spare => uptoBulkAll elems + uptoBulkAll spare + 1
  | .agg parts => uptoBulkAll parts + 1
  | .iface _ d => uptoBulk d + 1
  | .map entries => uptoBulkEntries entries + 1
  | .held _ => 1
def uptoBulkAll {H : Type} : List (DataW H) → Nat
  | [] => 0
  | d :: r => uptoBulk d + uptoBulkAll r
def uptoBulkEntries {H : Type} : List (Lit × DataW H) → Nat
  | [] => 0
  | x :: r => uptoBulkEntry x + uptoBulkEntries r
def uptoBulkEntry {H : Type} : Lit × DataW H → Nat
  | (.string bytes, d) => bytes.length + uptoBulk d + 1
  | (_, d) => uptoBulk d + 1
 end
def uptoSmall : (H : Type) → List (DataW H) → Bool := fun _ ds => decide (uptoBulkAll ds ≤ 1048576)
def OpenSpec.upto (s : _root_.Go.ChangeSpec) : _root_.Go.OpenSpec := { _root_.Go.OpenSpec.ofChange s with cond := some uptoSmall }

/-- 'reevelaw18.InterpRuns', WHERE WHAT IT READS IS OF BULK AT MOST 1048576: true; the input reads as it did. -/
def interpRunsUptoRow : OpenClaim := { program := "ytpodoiichpnpjaadoor", sum := "68b2308622e665caf608cbbbfbd4c059c05b72e6fcc4053454b9d8e08dafc01d", func := "reeve/reevelaw18.InterpRuns", spec := "interpRuns", named := ["reeve/code.operations"], apart := false, laid := [("reeve/code.operations", laid_reeve_code_operations)], narrowed := true }
def InterpRunsUptoSaid : Prop := interpRunsUptoRow.holds Tryd.pinned (OpenSpec.upto interpRunsSpec)

/-- 'reevelaw18.InterpEvents', WHERE WHAT IT READS IS OF BULK AT MOST 1048576: true; the input reads as it did. -/
def interpEventsUptoRow : OpenClaim := { program := "ytpodoiichpnpjaadoor", sum := "68b2308622e665caf608cbbbfbd4c059c05b72e6fcc4053454b9d8e08dafc01d", func := "reeve/reevelaw18.InterpEvents", spec := "interpEvents", named := ["reeve/code.operations"], apart := false, laid := [("reeve/code.operations", laid_reeve_code_operations)], narrowed := true }
def InterpEventsUptoSaid : Prop := interpEventsUptoRow.holds Tryd.pinned (OpenSpec.upto interpEventsSpec)

/-- 'reevelaw18.InterpLoops', WHERE WHAT IT READS IS OF BULK AT MOST 1048576: true; the input reads as it did. -/
def interpLoopsUptoRow : OpenClaim := { program := "ytpodoiichpnpjaadoor", sum := "68b2308622e665caf608cbbbfbd4c059c05b72e6fcc4053454b9d8e08dafc01d", func := "reeve/reevelaw18.InterpLoops", spec := "interpLoops", named := ["reeve/code.operations"], apart := false, laid := [("reeve/code.operations", laid_reeve_code_operations)], narrowed := true }
def InterpLoopsUptoSaid : Prop := interpLoopsUptoRow.holds Tryd.pinned (OpenSpec.upto interpLoopsSpec)

/-- 'reevelaw18.InterpStack', WHERE WHAT IT READS IS OF BULK AT MOST 1048576: true; the input reads as it did. -/
def interpStackUptoRow : OpenClaim := { program := "ytpodoiichpnpjaadoor", sum := "68b2308622e665caf608cbbbfbd4c059c05b72e6fcc4053454b9d8e08dafc01d", func := "reeve/reevelaw18.InterpStack", spec := "interpStack", named := ["reeve/code.operations"], apart := false, laid := [("reeve/code.operations", laid_reeve_code_operations)], narrowed := true }
def InterpStackUptoSaid : Prop := interpStackUptoRow.holds Tryd.pinned (OpenSpec.upto interpStackSpec)

/-- 'reevelaw18.InterpSends', WHERE WHAT IT READS IS OF BULK AT MOST 1048576: true; the input reads as it did. -/
def interpSendsUptoRow : OpenClaim := { program := "ytpodoiichpnpjaadoor", sum := "68b2308622e665caf608cbbbfbd4c059c05b72e6fcc4053454b9d8e08dafc01d", func := "reeve/reevelaw18.InterpSends", spec := "interpSends", named := ["reeve/code.operations"], apart := false, laid := [("reeve/code.operations", laid_reeve_code_operations)], narrowed := true }
def InterpSendsUptoSaid : Prop := interpSendsUptoRow.holds Tryd.pinned (OpenSpec.upto interpSendsSpec)

/-- 'reevelaw18.InterpTimers', WHERE WHAT IT READS IS OF BULK AT MOST 1048576: true; the input reads as it did. -/
def interpTimersUptoRow : OpenClaim := { program := "ytpodoiichpnpjaadoor", sum := "68b2308622e665caf608cbbbfbd4c059c05b72e6fcc4053454b9d8e08dafc01d", func := "reeve/reevelaw18.InterpTimers", spec := "interpTimers", named := ["reeve/code.operations"], apart := false, laid := [("reeve/code.operations", laid_reeve_code_operations)], narrowed := true }
def InterpTimersUptoSaid : Prop := interpTimersUptoRow.holds Tryd.pinned (OpenSpec.upto interpTimersSpec)

end Rows
end Go.Proofs.YtpodoiichpnpjaaDoor
