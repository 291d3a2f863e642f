/-
  CodecWrites: the walk.
-/
import Derived.Test.YtkhgdeklgcafpaaWrite
namespace Go.Proofs.Ytkhgdeklgcafpaa
open Go.RowKit

set_option maxHeartbeats 1000000 in
theorem writes_walk (v : Value) (l : List PieceD) (w : World) (hv : Holds w v l) (hh : heavy l ≤ 140737488355328) :
    Calls Try.prog 3 #[v] w fun e w' => e = .returned (.bool true) ∧ Kept [] w w' := by
  go_enter Try.func3, Try.ntmps3
  go_wp2_with fail
  refine (awake_any _).mono ?_
  rintro e w1 ⟨rfl, hk1⟩
  have hv1 := hv.kept hk1
  go_wp2_with fail
  refine (write_any v l _ hv1 hh).mono ?_
  rintro e w2 ⟨x, y, rfl, hx, hy, hk2, -, -⟩
  have hs1 := string_of (P := Try.prog) 24 5 Try.underlying24 9 Try.underlying5 Try.underlying9 _ _ w2 hx.reads
  have hs2 := string_of (P := Try.prog) 24 5 Try.underlying24 9 Try.underlying5 Try.underlying9 _ _ w2 hy.reads
  have hfin := hk1.trans hk2 (by simp)
  clear hx hy hk1 hk2 hv hv1
  go_wp2_with fail
  go_ret
  exact ⟨rfl, hfin⟩

end Go.Proofs.Ytkhgdeklgcafpaa
