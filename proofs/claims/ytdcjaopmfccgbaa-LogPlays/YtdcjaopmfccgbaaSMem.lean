/-
  What the walks of this seat say of memory: which old blocks are kept, which bytes a slice reads as, what a Writer and a Reader hold. Nothing here speaks of the program.
-/
import Derived.Test.YtdcjaopmfccgbaaCRead
import Derived.Test.YtdcjaopmfccgbaaCWBytes
import Derived.WalkKit
import Derived.Deep.AppendLies
import Derived.Lib.AppendStr
import Derived.Laws.IdiomStrings
import Derived.OneCell
namespace Go.Proofs.Ytdcjaopmfccgbaa
open Go.RowKit
end Go.Proofs.Ytdcjaopmfccgbaa
