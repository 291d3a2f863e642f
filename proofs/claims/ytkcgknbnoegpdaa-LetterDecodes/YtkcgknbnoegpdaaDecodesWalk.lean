/-
  LetterDecodes: the walk.
-/
import Derived.Test.YtkcgknbnoegpdaaDe
namespace Go.Proofs.Ytkcgknbnoegpdaa
open Go.RowKit
set_option linter.unusedVariables false
section
variable {w : World}
set_option maxRecDepth 100000 in
set_option maxHeartbeats 1000000 in
theorem decodes_walk (v : Value) (l : List UInt8) (hl : l.length ≤ 140737488351232) (hr : Reads w v l) (hin : Inside w v) :
    Calls Try.prog 4 #[v] w fun e w' => e = .returned (.bool true) ∧ Kept [] w w' := by
  go_enter Try.func4, Try.ntmps4
  go_wp2_with fail
  refine awake9.mono ?_
  rintro e w1 ⟨rfl, k1⟩
  go_wp2_with fail
  refine (decode18 v l (hr.kept k1 (by simp)) (by omega)).mono ?_
  rintro e w2 ⟨a2, c2, rfl, hO2, k2, hf2⟩
  have k02 := k1.trans k2 (by simp)
  have hle := decL_le l
  generalize hx : (decL l).getD default = x at hO2 hf2 hle
  generalize hE : (if (decL l).isSome = true then 0 else 2 : Int) = E
  have HX := Hid.mk hx
  have HE := Hid.mk hE
  clear hx hE
  go_wp2_with fail
  obtain ⟨W2, e0, kW2, hz2, hb2⟩ := box1 w2 (.cells #[Sv x.fr, .int .u64 (x.ser : Int), .int .i64 x.kind, .slice a2 x.args.length c2] 25)
  rw [e0]
  clear e0
  have k03 := k02.trans kW2 (by simp)
  refine (decode19 v l (hr.kept k03 (by simp)) (fun g hg => by have := hin g hg; have := k03.size; omega)).mono ?_
  rintro e w3 ⟨a3, c3, rfl, hO3, k3, hf3⟩
  rw [HX.out] at hO3 hf3 ⊢
  rw [HE.out]
  have k04 := k03.trans k3 (by simp)
  have hb3 := k3.keeps hb2 (by simp)
  have hO2' := (hO2.kept kW2 (by simp)).kept k3 (by simp)
  have hlt := lt_of_block hb3
  obtain ⟨c0, c1, c2', c3'⟩ := cells4 hb3
  go_wp2_with fail
  have kW3 := (Kept.refl [] w3).alloc (.cells #[Sv x.fr, .int .u64 (x.ser : Int), .int .i64 x.kind, .slice a3 x.args.length c3] 25)
  refine (same16 x x a2 a3 c2 c3 (hO2'.kept kW3 (by simp)).reads (hO3.kept kW3 (by simp)).reads (by omega)).mono ?_
  rintro e w5 ⟨rfl, k5⟩
  rw [sameL_refl]
  go_wp2_with fail
  go_ret
  exact ⟨rfl, (k04.trans kW3 (by simp)).trans k5 (by simp)⟩
end
end Go.Proofs.Ytkcgknbnoegpdaa
