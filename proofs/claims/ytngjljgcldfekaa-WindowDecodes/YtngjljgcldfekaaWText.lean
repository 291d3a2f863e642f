/-
  Writer.Int and Writer.Text: what they lay.
-/
import Derived.Test.YtngjljgcldfekaaWNum
import Derived.Test.YtngjljgcldfekaaStr
namespace Go.Proofs.Ytngjljgcldfekaa
open Go.RowKit
theorem laid_str {t e : TypeId} {w w1 w2 : World} {p : Nat} {v v2 : Value} {l l2 : List UInt8} (hW : IsW t e w p v l) (hown : Owns e w1 v2 l2) (hg : w.grownBy w1 v.ownBlock) (hat : New w v v2) (h2 : w2 = w1.setCell ⟨p, 0, none⟩ v2) : Laid t e w p v l2 w2 := by
  subst h2
  exact laid_step hW (Kept.refl [] w) hown hg hat
end Go.Proofs.Ytngjljgcldfekaa
