/-
  What the walks of this seat say of memory: which old blocks are kept, which bytes a slice reads as, Nothing here speaks of the program.
-/
import Derived.Test.YtilelklcfgemoaaSTurn
import Derived.WalkKit
import Derived.Deep.AppendLies
import Derived.Lib.AppendStr
import Derived.Laws.IdiomStrings
import Derived.OneCell
import Derived.BigQuiet
import Derived.Laws.CopyRow
import Derived.Laws.CopyOwn
import Derived.Laws.OwnMore
import Derived.Lib.SliceRun
import Derived.ProofKit
import Derived.OpenShut
namespace Go.Proofs.Ytilelklcfgemoaa
open Go.RowKit
theorem Kept.drewN {S : List Nat} {a w : World} (h : Kept S a w) (n : Nat) : Kept S a (w.drewN n) := ⟨h.os, h.tape, h.output, h.size, h.block⟩
end Go.Proofs.Ytilelklcfgemoaa
