/-
  The small functions of the codec: what fold, unfold, NewWriter and bits.Len64 do.
-/
import Derived.Test.YthbopephcdohkaaRows
import Derived.Test.YthbopephcdohkaaMem
import Derived.Test.YthbopephcdohkaaNum
import Derived.WalkLawsBesides
import Derived.WalkSpells
namespace Go.Proofs.Ythbopephcdohkaa
open Go.RowKit

theorem ret_int {k : IntKind} {a b : Int} (h : a = b) : Ending.returned (.int k a) = .returned (.int k b) := by rw [h]

end Go.Proofs.Ythbopephcdohkaa
