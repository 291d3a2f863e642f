/-
  No cell of these rows narrows 'for every input' (looked for: loops, veiled, ifaces, maps, wideKeys, modest, calm, conditions, laid).
  DERIVED. THE GIVEN ROWS OF THIS SEAT. 2 by the template 'for every input the law returns true; each argument reads behind the call as it read before'; 0 by the template 'total and deterministic' (their statements: YtdadloaifebdiaaGreatTotals.lean).
  GIVEN WITH THE SEED: the statements are not yours to turn. If you find one false, say at which input.
  Laid BY PROGRAM, IN A SANDBOX (cutbox-rows.mjs): the forced cells as the released guide's own fill.sh prints them over the translation b8d8d8769a40e399… (all of the seat's roots in one cut). By AI agents, Wed Nov 11 2026. No macro, syntax, notation, axiom, sorry.
-/
import Derived.Test.YtdadloaifebdiaaGreatChecked
import GoSem.Claim
import GoSem.ClaimJoined
import GoSem.ClaimMapViews
import Derived.JoinedTies
import Derived.KernelRfl
namespace Go.Proofs.YtdadloaifebdiaaGreat
/- THE CELL 'sum', in the pinned program and in every row, IS THE sha256 OF THE DUMP (.gsa) THAT YtdadloaifebdiaaGreatProg.lean LOADS. Nothing in Lean hashes anything: it is a label: what it is worth is what the hold of that sum in a sandbox is worth. -/
noncomputable def Tryz.pinned : Pinned := { name := "ytdadloaifebdiaagreat", sum := "b8d8d8769a40e3991211941dc867eeba9e13910e4d7b9a907f0e8bf2ec7c7fca", checked := Tryz.checked }
namespace Rows
def none {H : Type} : Left H := { results := [], args := [] }

/-- 'reevelaw19.ActorDecodes': WHATEVER THE INPUT: true; the input reads as it did. -/
def actorDecodesSpec : ChangeSpec := { name := "actorDecodes", fn := fun _ => fun
  | [d] => { results := [.lit (.bool true)], args := [d] }
  | _ => none }
def actorDecodesRow : OpenClaim := { program := "ytdadloaifebdiaagreat", sum := "b8d8d8769a40e3991211941dc867eeba9e13910e4d7b9a907f0e8bf2ec7c7fca", func := "reeve/reevelaw19.ActorDecodes", spec := "actorDecodes", inPlace := ["internal/bytealg.abigen_runtime_cmpstring"], unfollowed := true, recurses := true, apart := false }
def ActorDecodesSaid : Prop := actorDecodesRow.holds Tryz.pinned (OpenSpec.ofChange actorDecodesSpec)

/-- ITS FALSE NEIGHBOUR: 'it returns false'. Refute it at one input. -/
def actorDecodesWrong : ChangeSpec := { name := "actorDecodes", fn := fun _ => fun
  | [d] => { results := [.lit (.bool false)], args := [d] }
  | _ => none }
def ActorDecodesWrongFalsely : Prop := actorDecodesRow.holds Tryz.pinned (OpenSpec.ofChange actorDecodesWrong)

/-- 'reevelaw19.ActorBack': WHATEVER THE INPUT: true; the input reads as it did. -/
def actorBackSpec : ChangeSpec := { name := "actorBack", fn := fun _ => fun
  | [d1, d2, d3, d4, d5, d6] => { results := [.lit (.bool true)], args := [d1, d2, d3, d4, d5, d6] }
  | _ => none }
def actorBackRow : OpenClaim := { program := "ytdadloaifebdiaagreat", sum := "b8d8d8769a40e3991211941dc867eeba9e13910e4d7b9a907f0e8bf2ec7c7fca", func := "reeve/reevelaw19.ActorBack", spec := "actorBack", inPlace := ["internal/bytealg.abigen_runtime_cmpstring"], unfollowed := true, recurses := true, apart := false }
def ActorBackSaid : Prop := actorBackRow.holds Tryz.pinned (OpenSpec.ofChange actorBackSpec)

/-- ITS FALSE NEIGHBOUR: 'it returns false'. Refute it at one input. -/
def actorBackWrong : ChangeSpec := { name := "actorBack", fn := fun _ => fun
  | [d1, d2, d3, d4, d5, d6] => { results := [.lit (.bool false)], args := [d1, d2, d3, d4, d5, d6] }
  | _ => none }
def ActorBackWrongFalsely : Prop := actorBackRow.holds Tryz.pinned (OpenSpec.ofChange actorBackWrong)

/- THE SECOND FORM. 'bulk': how many values and letters a reading holds, each counted each time it is reached (what is shared counts as often as it is met; a slice's spare places count too). A statement '..UptoSaid' is the law's where the arguments, and the package variables that the reading takes, are together of bulk at most 1048576: NARROWER than '..Said'. Prove '..Said' where nothing that the law and all that it calls make is longer than what came in: it says more and counts as full. Else prove '..UptoSaid'. A law counts once. -/
mutual
def uptoBulk {H : Type} : DataW H → Nat
  | .lit (.string bytes) => bytes.length + 1
  | .lit _ => 1
  | .nil => 1
  | .ptr d => uptoBulk d + 1
  | .slice elems spare => uptoBulkAll elems + uptoBulkAll spare + 1
  | .agg parts => uptoBulkAll parts + 1
  | .iface _ d => uptoBulk d + 1
  | .map entries => uptoBulkEntries entries + 1
  | .held _ => 1
def uptoBulkAll {H : Type} : List (DataW H) → Nat
  | [] => 0
  | d :: r => uptoBulk d + uptoBulkAll r
def uptoBulkEntries {H : Type} : List (Lit × DataW H) → Nat
  | [] => 0
  | x :: r => uptoBulkEntry x + uptoBulkEntries r
def uptoBulkEntry {H : Type} : Lit × DataW H → Nat
  | (.string bytes, d) => bytes.length + uptoBulk d + 1
  | (_, d) => uptoBulk d + 1
 end
def uptoSmall : (H : Type) → List (DataW H) → Bool := fun _ ds => decide (uptoBulkAll ds ≤ 1048576)
def OpenSpec.upto (s : _root_.Go.ChangeSpec) : _root_.Go.OpenSpec := { _root_.Go.OpenSpec.ofChange s with cond := some uptoSmall }

/-- 'reevelaw19.ActorDecodes', WHERE WHAT IT READS IS OF BULK AT MOST 1048576: true; the input reads as it did. -/
def actorDecodesUptoRow : OpenClaim := { program := "ytdadloaifebdiaagreat", sum := "b8d8d8769a40e3991211941dc867eeba9e13910e4d7b9a907f0e8bf2ec7c7fca", func := "reeve/reevelaw19.ActorDecodes", spec := "actorDecodes", inPlace := ["internal/bytealg.abigen_runtime_cmpstring"], unfollowed := true, recurses := true, apart := false, narrowed := true }
def ActorDecodesUptoSaid : Prop := actorDecodesUptoRow.holds Tryz.pinned (OpenSpec.upto actorDecodesSpec)

/-- 'reevelaw19.ActorBack', WHERE WHAT IT READS IS OF BULK AT MOST 1048576: true; the input reads as it did. -/
def actorBackUptoRow : OpenClaim := { program := "ytdadloaifebdiaagreat", sum := "b8d8d8769a40e3991211941dc867eeba9e13910e4d7b9a907f0e8bf2ec7c7fca", func := "reeve/reevelaw19.ActorBack", spec := "actorBack", inPlace := ["internal/bytealg.abigen_runtime_cmpstring"], unfollowed := true, recurses := true, apart := false, narrowed := true }
def ActorBackUptoSaid : Prop := actorBackUptoRow.holds Tryz.pinned (OpenSpec.upto actorBackSpec)

end Rows
end Go.Proofs.YtdadloaifebdiaaGreat
