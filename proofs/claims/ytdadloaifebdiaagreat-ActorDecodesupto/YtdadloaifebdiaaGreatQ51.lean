import Derived.Test.YtdadloaifebdiaaGreatRows
import Derived.ChangeSlices
import Derived.Test.YtdadloaifebdiaaGreatQ48
import Derived.Test.YtdadloaifebdiaaGreatQ49
import Derived.Test.YtdadloaifebdiaaGreatQ50
/-
  ActorDecodes: any bytes are the actor that the document says, or none.
-/
namespace Go.Proofs.YtdadloaifebdiaaGreat
open Go.RowKit
set_option linter.unusedVariables false
theorem same_yes : SameYes := fun W p f a h1 h2 h3 => same9 h1 h2 h3
theorem decodes_walk {w : World} (v : Value) (l : List UInt8) (hr : Reads w v l) (hin : Inside w v) (hl : l.length ≤ 3000000) : Calls Tryz.prog 3 #[v] w fun e w' => e = .returned (.bool true) ∧ Kept [] w w' := decodes_of same_yes v l hr hin hl
end Go.Proofs.YtdadloaifebdiaaGreat
/-
  ActorBack: there and back, cut and turned.
-/
namespace Go.Proofs.YtdadloaifebdiaaGreat
open Go.RowKit
set_option linter.unusedVariables false
theorem back_walk {w : World} {a0 a1 a2 : Option Addr} {n0 c0 n1 c1 n2 c2 : Nat} {ls : List Lq} {ts : List (List UInt8)} {es : List Ep} (u : Nat) (hu : u < 256) (at_ : Int) (y : Nat) (hy : y < 256)
    (hl : LetsIn w (.slice a0 n0 c0) ls) (ht : TextsIn w (.slice a1 n1 c1) ts) (he : EvsIn w (.slice a2 n2 c2) es) :
    Calls Tryz.prog 4 #[.slice a0 n0 c0, .slice a1 n1 c1, .slice a2 n2 c2, .int .u8 (u : Int), .int .i64 at_, .int .u8 (y : Int)] w fun e w' => e = .returned (.bool true) ∧ Kept [] w w' := back_of (fun W p f a h1 h2 h3 => same9 h1 h2 h3) u hu at_ y hy hl ht he
end Go.Proofs.YtdadloaifebdiaaGreat
/-
  What the bound of the second form gives of bytes.
-/
namespace Go.Proofs.YtdadloaifebdiaaGreat
set_option maxRecDepth 100000
open Go.ChangeShapes
theorem bulk_lits {H : Type} (k : IntKind) (zs : List Int) : Rows.uptoBulkAll (lits (H := H) k zs) = zs.length := by
  unfold lits
  induction zs with
  | nil => simp [Rows.uptoBulkAll]
  | cons z r ih =>
    simp only [List.map_cons, Rows.uptoBulkAll, Rows.uptoBulk, ih, List.length_cons]
    omega
/-- What the bound gives. -/
theorem small_of {H : Type} {l : List (DataW H)} (hk : Rows.uptoSmall H l = true) : Rows.uptoBulkAll l ≤ 1048576 := of_decide_eq_true hk
end Go.Proofs.YtdadloaifebdiaaGreat
