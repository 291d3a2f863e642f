/-
  slices.Equal of integers, and Same of two letters.
-/
import Derived.Test.YtpcliempoagpoaaFm
import Derived.Deep.RegionHeld3
namespace Go.Proofs.Ytpcliempoagpoaa
open Go.RowKit
set_option linter.unusedVariables false
section
variable {w : World}
/-- All of two letters is alike. -/
def sameL (x y : Lt) : Bool := decide (x.fr = y.fr ∧ x.ser = y.ser ∧ x.kind = y.kind ∧ x.args = y.args)
theorem sameL_iff (x y : Lt) : sameL x y = true ↔ x = y := by
  cases x; cases y; simp [sameL]
theorem sameL_refl (x : Lt) : sameL x x = true := (sameL_iff x x).2 rfl
set_option maxRecDepth 100000 in
set_option maxHeartbeats 1000000 in
theorem same16 (x y : Lt) (a b : Option Addr) (c d : Nat) (hx : ReadsJ w (.slice a x.args.length c) x.args) (hy : ReadsJ w (.slice b y.args.length d) y.args) (hl : x.args.length ≤ 9223372036854775806) :
    Calls Try.prog 15 #[Lv x a c, Lv y b d] w fun e w' => e = .returned (.bool (sameL x y)) ∧ Kept [] w w' := by
  generalize hD : sameL x y = D
  have HD := Hid.mk hD
  clear hD
  have k2 : Kept [] w ((w.alloc (Obj.cells #[Sv x.fr, Value.int IntKind.u64 ↑x.ser, Value.int IntKind.i64 x.kind, Value.slice a x.args.length c] 34)).alloc (Obj.cells #[Sv y.fr, Value.int IntKind.u64 ↑y.ser, Value.int IntKind.i64 y.kind, Value.slice b y.args.length d] 34)) := ((Kept.refl [] w).alloc _).alloc _
  by_cases h1 : x.fr = y.fr
  · have g1 : (x.fr == y.fr) = true := by simp [h1]
    by_cases h2 : x.ser = y.ser
    · have g2 : ((x.ser : Int) == (y.ser : Int)) = true := by simp [h2]
      by_cases h3 : x.kind = y.kind
      · have g3 : (x.kind == y.kind) = true := by simp [h3]
        have HE := Hid.mk (fun W (k : Kept [] w W) => sameInts31 (hx.kept k (by simp)) (hy.kept k (by simp)) rfl rfl hl)
        have H1 := Hid.mk h1
        have H2 := Hid.mk h2
        have H3 := Hid.mk h3
        clear k2 h1 h2 h3 hx hy
        go_enter Try.func15, Try.ntmps15
        go_wp2_with (go_at_call 29; refine (HE.out _ (((Kept.refl [] w).alloc _).alloc _)).mono ?_; rintro e w3 ⟨rfl, hk3⟩)
        go_ret
        refine ⟨?_, (((Kept.refl [] w).alloc _).alloc _).trans hk3 (by simp)⟩
        rw [← HD.out]
        unfold sameL
        simp only [H1.out, H2.out, H3.out, true_and]
        rfl
      · have g3 : (x.kind == y.kind) = false := by simp [h3]
        have HK := Hid.mk k2
        have HH := Hid.mk h3
        clear k2 hx hy h3 h1 h2
        go_enter Try.func15, Try.ntmps15
        go_wp2_with fail
        go_ret
        refine ⟨?_, HK.out⟩
        rw [← HD.out]
        unfold sameL
        simp only [HH.out, false_and, and_false, decide_false]
        rfl
    · have g2 : ((x.ser : Int) == (y.ser : Int)) = false := by simp; omega
      have HK := Hid.mk k2
      have HH := Hid.mk h2
      clear k2 hx hy h2 h1
      go_enter Try.func15, Try.ntmps15
      go_wp2_with fail
      go_ret
      refine ⟨?_, HK.out⟩
      rw [← HD.out]
      unfold sameL
      simp only [HH.out, false_and, and_false, decide_false]
      rfl
  · have g1 : (x.fr == y.fr) = false := by simp [h1]
    have HK := Hid.mk k2
    have HH := Hid.mk h1
    clear k2 hx hy h1
    go_enter Try.func15, Try.ntmps15
    go_wp2_with fail
    go_ret
    refine ⟨?_, HK.out⟩
    rw [← HD.out]
    unfold sameL
    simp only [HH.out, false_and, decide_false]
    rfl
end
end Go.Proofs.Ytpcliempoagpoaa
