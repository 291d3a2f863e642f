/-
  LazyTexts: the walk.
-/
import Derived.Test.YthbopephcdohkaaSame
namespace Go.Proofs.Ythbopephcdohkaa
open Go.RowKit
set_option linter.unusedVariables false

theorem Inside.kept {w w' : World} {v : Value} (h : Inside w v) (k : Kept [] w w') : Inside w' v := fun g hg => by have := h g hg; have := k.size; omega

theorem parse_le (l : List UInt8) : ((parse l).getD []).length ≤ l.length := by
  have key : ∀ (n : Nat) (l : List UInt8), l.length ≤ n → ((parse l).getD []).length ≤ l.length := by
    intro n
    induction n with
    | zero => intro l h; have : l = [] := List.eq_nil_of_length_eq_zero (by omega); subst this; simp [parse_nil]
    | succ n ih =>
      intro l h
      by_cases hl : l = []
      · subst hl; simp [parse_nil]
      · rw [parse_step l hl]
        cases hb : (rtext l false).2.2 with
        | true => simp
        | false =>
          have hs := rtext_short l hl hb
          have := ih (rtext l false).2.1 (by omega)
          rw [cond_false]
          cases hp : parse (rtext l false).2.1 with
          | none => simp
          | some x => rw [hp] at this; simp at this ⊢; omega
  exact key l.length l (Nat.le_refl _)

set_option maxRecDepth 100000 in
set_option maxHeartbeats 2000000 in
theorem texts_walk (v : Value) (l : List UInt8) (i : Int) (w : World) (hR : Reads w v l) (hin : Inside w v) (hl : l.length ≤ 16777216) (hi : -9223372036854775808 ≤ i) (hi2 : i ≤ 9223372036854775807) :
    Calls Try.prog 3 #[v, .int .i64 i] w fun e w' => e = .returned (.bool true) ∧ Kept [] w w' := by
  have hpl : ((parse l).getD []).length ≤ 16777216 := by have := parse_le l; omega
  have hnot : ∀ (x : Bool) (w : World), (Op.unary .not (.bool x)).run Try.prog w = .ok (.bool (!x)) w := fun _ _ => rfl
  go_enter Try.func3, Try.ntmps3
  go_wp2_with fail
  refine (awake_any _).mono ?_
  rintro e w1 ⟨rfl, k1⟩
  go_wp2_with fail
  refine (new_any v l _ (hR.kept k1 (by simp)) hl).mono ?_
  rintro e w2 ⟨p, u, rfl, hU, k2, hp, hf, hin2⟩
  have hpw : w.heap.size ≤ p := by have := k1.size; omega
  have k2' := k1.trans k2 (by simp)
  go_wp2_with fail
  refine (texts_first p l u _ hU hl hpl).mono ?_
  rintro e w3 ⟨tv, xv, rfl, hox, hD, k3, hfx, hft, hxt, hxp⟩
  have k3' := k2'.trans k3 (fun x hx => by simp at hx; subst hx; exact .inr hpw)
  go_wp2_with fail
  refine (refTexts_any v l _ (hR.kept k3' (by simp)) (hin.kept k3') hl).mono ?_
  rintro e w4 ⟨yv, rfl, hoy, k4, hfy, hly⟩
  have k4' := k3'.trans k4 (by simp)
  have hD4 := hD.kept k4 (by simp) (by simp)
  have hx4 := hox.kept k4 (by simp)
  go_wp2_with fail
  refine (at_again p l i tv _ hD4 hpl hi hi2).mono ?_
  rintro e w5 ⟨rfl, rfl⟩
  go_wp2_with fail
  refine (refAt_any v l i _ (hR.kept k4' (by simp)) (hin.kept k4') hl hi hi2).mono ?_
  rintro e w6 ⟨rfl, k6⟩
  have k6' := k4'.trans k6 (by simp)
  have hs := same_any xv yv _ _ w6 (hx4.kept k6 (by simp)).reads (hoy.kept k6 (by simp)).reads hpl hpl
  rw [show decide ((parse l).getD [] = (parse l).getD []) = true by simp] at hs
  clear hD4 hx4 hoy hox hD hU hR
  generalize (parse l).isSome = B
  generalize (atT ((parse l).getD []) i).2 = A2
  unfold T8
  have hb : ((⟨(atT ((parse l).getD []) i).1.toArray⟩ : ByteArray).toList == (⟨(atT ((parse l).getD []) i).1.toArray⟩ : ByteArray).toList) = true := by simp
  generalize (⟨(atT ((parse l).getD []) i).1.toArray⟩ : ByteArray) = T at hb
  cases B <;> cases A2
  all_goals
    go_wp2_with (go_at_call 14; refine hs.mono ?_; rintro e w7 ⟨rfl, k7⟩)
    go_ret
    exact ⟨rfl, k6'.trans k7 (by simp)⟩

end Go.Proofs.Ythbopephcdohkaa
