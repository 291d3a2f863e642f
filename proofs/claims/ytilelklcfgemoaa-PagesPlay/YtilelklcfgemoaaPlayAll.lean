/-
  PagesPlay answers true, whatever comes in.
-/
import Derived.Test.YtilelklcfgemoaaPlayWalk
namespace Go.Proofs.Ytilelklcfgemoaa
open Go.RowKit

theorem play_all (w : World) (ct fr : Nat) (hct : ct ≤ 255) (hfr : fr ≤ 255) (v : Value) (ls : List OpL) (hv : HoldsO w v ls) : Calls Try.prog 3 #[.int .u8 (ct : Int), .int .u8 (fr : Int), v] w fun e w' => e = .returned (.bool true) ∧ Kept [] w w' := by
  by_cases hn : 60 < ls.length
  · exact play_long w _ _ v ls hv hn
  · by_cases h0 : ct = 0
    · subst h0
      exact play_zero w fr hfr v ls hv (by omega)
    · exact play_walk w ct fr hct (by omega) hfr v ls hv (by omega)
end Go.Proofs.Ytilelklcfgemoaa
