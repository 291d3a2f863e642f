/-
  LogNil answers true.
-/
import Derived.Test.YtdcjaopmfccgbaaNilA
import Derived.Test.YtdcjaopmfccgbaaNilB
import Derived.Test.YtdcjaopmfccgbaaNilC
import Derived.Test.YtdcjaopmfccgbaaNilD
import Derived.Test.YtdcjaopmfccgbaaNilE
namespace Go.Proofs.Ytdcjaopmfccgbaa
open Go.RowKit
set_option linter.unusedVariables false

theorem nil_any (fr ct : Int) (v : Value) (l : List UInt8) (w : World) (h1 : -9223372036854775808 ≤ fr) (h2 : fr < 9223372036854775808) (h3 : -9223372036854775808 ≤ ct) (h4 : ct < 9223372036854775808) (hr : Reads w v l) : Calls Try.prog 6 #[.int .i64 fr, .int .i64 ct, v] w fun e w' => e = .returned (.bool true) ∧ Kept [] w w' := by
  have hr' := hr
  obtain ⟨a, cap, rfl, _⟩ := hr
  by_cases h : l.length ≤ 2000
  · by_cases h0 : l.length = 0
    · rw [h0]
      exact nil_empty fr ct a cap w h1 h2 h3 h4
    · have hcases : (1 ≤ ct ∧ ct ≤ 10 ∧ 0 ≤ fr ∧ fr ≤ 10 - ct) ∨ ct < 1 ∨ 10 < ct ∨ (1 ≤ ct ∧ ct ≤ 10 ∧ fr < 0) ∨ (1 ≤ ct ∧ ct ≤ 10 ∧ 0 ≤ fr ∧ 10 - ct < fr) := by omega
      rcases hcases with g | g | g | g | g
      · exact nil_someA fr ct a l.length cap l w hr' rfl (by omega) h h1 h2 h3 h4 g
      · exact nil_someB fr ct a l.length cap l w hr' rfl (by omega) h h1 h2 h3 h4 g
      · exact nil_someC fr ct a l.length cap l w hr' rfl (by omega) h h1 h2 h3 h4 g
      · exact nil_someD fr ct a l.length cap l w hr' rfl (by omega) h h1 h2 h3 h4 g
      · exact nil_someE fr ct a l.length cap l w hr' rfl (by omega) h h1 h2 h3 h4 g
  · exact nil_long fr ct a l.length cap w (by omega)
end Go.Proofs.Ytdcjaopmfccgbaa
