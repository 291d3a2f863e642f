/-
  ActivPlays: the walk.
-/
import Derived.Test.YtmihpgejaobdbaaPlaysNew
import Derived.Test.YtmihpgejaobdbaaPlaysZero
namespace Go.Proofs.Ytmihpgejaobdbaa
open Go.RowKit
theorem plays_walk {w : World} (most : Int) (zero : Bool) {a : Option Addr} {ln cap : Nat} {ops : List Pq} (hK : OpsIn w (.slice a ln cap) ops) : Calls Try.prog 3 #[.int .i64 most, .slice a ln cap, .bool zero] w fun e w' => e = .returned (.bool true) ∧ Kept [] w w' := by
  cases zero with
  | true => exact plays_zero most hK
  | false => exact plays_new most hK
end Go.Proofs.Ytmihpgejaobdbaa
