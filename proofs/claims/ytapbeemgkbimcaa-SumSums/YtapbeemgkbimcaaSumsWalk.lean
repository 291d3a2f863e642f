/-
  SumSums: the walk.
-/
import Derived.Test.YtapbeemgkbimcaaAwake
namespace Go.Proofs.Ytapbeemgkbimcaa
open Go.RowKit
set_option linter.unusedVariables false

set_option maxRecDepth 100000 in
set_option maxHeartbeats 400000 in
theorem sums_walk (v : Value) (l : List UInt8) (w : World) (hr : Reads w v l) : Calls Try.prog 3 #[v] w fun e w' => e = .returned (.bool true) ∧ Kept [] w w' := by
  go_enter Try.func3, Try.ntmps3
  go_wp2_with fail
  refine (awake_any w).mono ?_
  rintro e w1 ⟨rfl, hk⟩
  have h1 := sum_any v l w1 (hr.kept hk (by simp))
  have h2 := refsum_any v l w1 (hr.kept hk (by simp))
  generalize fnv l = S at h1 h2
  clear hr
  go_wp2_with fail
  refine h1.mono ?_
  rintro e w2 ⟨rfl, rfl⟩
  go_wp2_with fail
  refine h2.mono ?_
  rintro e w2 ⟨rfl, rfl⟩
  go_wp2_with fail
  go_ret
  exact ⟨rfl, hk⟩

end Go.Proofs.Ytapbeemgkbimcaa
