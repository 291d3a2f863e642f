/-
  RemindPlays: the walk.
-/
import Derived.Test.YtelmppfacgdfbaaPl
namespace Go.Proofs.Ytelmppfacgdfbaa
set_option maxRecDepth 100000
open Go.RowKit Go.Shelf
set_option linter.unusedVariables false
section
variable {w : World}
set_option maxHeartbeats 1000000 in
theorem plays_walk {v : Value} {l : List Pq} (hO : OpsIn w v l) (z : Bool) : Calls Try.prog 3 #[v, .bool z] w fun e w' => e = .returned (.bool true) ∧ Kept [] w w' := by
  have HPL : Hid (∀ (W : World) (p f : Nat), Two w W p f [] [] → Calls Try.prog 11 #[.pointer (some ⟨p, 0, none⟩), .pointer (some ⟨f, 0, none⟩), v] W fun e w' => e = .returned (.bool true) ∧ Kept [] w w') := fun W p f T => by
    refine (play11 T hO).mono ?_
    rintro e w' ⟨rfl, Q, T'⟩
    exact ⟨rfl, T'.kept⟩
  clear hO
  cases z with
  | false =>
    go_enter Try.func3, Try.ntmps3
    go_wp2_with fail
    refine awake9.mono ?_
    rintro e w1 ⟨rfl, k1⟩
    go_wp2_with fail
    refine (one_new (w0 := w) k1).mono ?_
    rintro e w2 ⟨p, rfl, T2⟩
    have HC := Hid.mk (HPL.out _ _ _ (two_new T2.kept T2.isQ T2.hp))
    clear T2 k1
    go_wp2_with fail
    refine HC.out.mono ?_
    rintro e w3 ⟨rfl, k3⟩
    go_wp2_with fail
    go_ret
    exact ⟨rfl, k3⟩
  | true =>
    go_enter Try.func3, Try.ntmps3
    go_wp2_with fail
    refine awake9.mono ?_
    rintro e w1 ⟨rfl, k1⟩
    go_wp2_with fail
    refine (one_new (w0 := w) k1).mono ?_
    rintro e w2 ⟨p, rfl, T2⟩
    have HC := Hid.mk (HPL.out _ _ _ (two_new (T2.kept.trans ((Kept.refl [] w2).alloc (.cells (cellsN []).toArray 30)) (by simp)) (IsQ.new w2) T2.kept.size))
    rw [← zeroC30] at HC
    rw [show (w2.alloc (.cells Try.zeroCells30 30)).heap.size = w2.heap.size + 1 by simp] at HC
    clear T2 k1
    go_wp2_with fail
    refine HC.out.mono ?_
    rintro e w3 ⟨rfl, k3⟩
    go_wp2_with fail
    go_ret
    exact ⟨rfl, k3⟩
end
end Go.Proofs.Ytelmppfacgdfbaa
