/-
  What the walks of this seat say of memory: which old blocks are kept, which bytes a slice reads as, what a Writer and a Reader hold. Nothing here speaks of the program.
-/
import Derived.Test.YtilelklcfgemoaaCRead
import Derived.Test.YtilelklcfgemoaaCWBytes
import Derived.WalkKit
import Derived.Deep.AppendLies
import Derived.Lib.AppendStr
import Derived.Laws.IdiomStrings
import Derived.OneCell
namespace Go.Proofs.Ytilelklcfgemoaa
open Go.RowKit
end Go.Proofs.Ytilelklcfgemoaa
