/-
  Formed, and rows of integers that are held against each other.
-/
import Derived.Test.YtpcliempoagpoaaLt
import Derived.Deep.QuietTactic
import Derived.BigQuiet
namespace Go.Proofs.Ytpcliempoagpoaa
open Go.RowKit
set_option linter.unusedVariables false
section
variable {w : World}
theorem Lt.formed_eq (x : Lt) (b1 b2 : Bool) (h1 : (decide ((x.fr.length : Int) ≤ 40)) = b1) (h2 : decide ((x.args.length : Int) ≤ 4) = b2) : x.formed = (b1 && b2) := by
  subst h1 h2
  unfold Lt.formed
  congr 1 <;> (rw [decide_eq_decide]; omega)
set_option maxHeartbeats 1000000 in
theorem formed13 (x : Lt) (a : Option Addr) (c : Nat) : Calls Try.prog 26 #[Lv x a c] w fun e w' => e = .returned (.bool x.formed) ∧ Kept [] w w' := by
  have HF := Hid.mk x.formed_eq
  generalize x.formed = fb at HF
  go_enter Try.func26, Try.ntmps26
  go_wp2_with fail
  · go_ret
    refine ⟨?_, (Kept.refl [] w).alloc _⟩
    rw [HF.out _ _ rfl rfl]
    have h : ((x.fr.length : Int) ≤ 40) := by omega
    simp only [h, decide_true, Bool.true_and]
    rfl
  · go_ret
    refine ⟨?_, (Kept.refl [] w).alloc _⟩
    rw [HF.out _ _ rfl rfl]
    have h : ¬ ((x.fr.length : Int) ≤ 40) := by omega
    simp only [h, decide_false, Bool.false_and]
    rfl
set_option maxHeartbeats 1000000 in
theorem formed14 (x : Lt) (a : Option Addr) (c : Nat) : Calls Try.prog 28 #[Lv x a c] w fun e w' => e = .returned (.bool x.formed) ∧ Kept [] w w' := by
  have HF := Hid.mk x.formed_eq
  generalize x.formed = fb at HF
  go_enter Try.func28, Try.ntmps28
  go_wp2_with fail
  · go_ret
    refine ⟨?_, (Kept.refl [] w).alloc _⟩
    rw [HF.out _ _ rfl rfl]
    have h : ((x.fr.length : Int) ≤ 40) := by omega
    simp only [h, decide_true, Bool.true_and]
    rfl
  · go_ret
    refine ⟨?_, (Kept.refl [] w).alloc _⟩
    rw [HF.out _ _ rfl rfl]
    have h : ¬ ((x.fr.length : Int) ≤ 40) := by omega
    simp only [h, decide_false, Bool.false_and]
    rfl
/-- Two rows of integers part at a place, or are alike. -/
theorem ints_part (l m : List Int) (h : l.length = m.length) : l = m ∨ ∃ k, k < l.length ∧ l.take k = m.take k ∧ l[k]? ≠ m[k]? := by
  induction l generalizing m with
  | nil => cases m with
    | nil => exact .inl rfl
    | cons y m => simp at h
  | cons x l ih => cases m with
    | nil => simp at h
    | cons y m =>
      by_cases hxy : x = y
      · subst hxy
        rcases ih m (by simpa using h) with rfl | ⟨k, h1, h2, h3⟩
        · exact .inl rfl
        · exact .inr ⟨k + 1, by simp; omega, by simp [h2], by simpa using h3⟩
      · exact .inr ⟨0, by simp, by simp, by simp [hxy]⟩
set_option maxRecDepth 100000 in
set_option maxHeartbeats 1000000 in
theorem sameInts31 {a a' : Option Addr} {c c' n n' : Nat} {l m : List Int} (hr : ReadsJ w (.slice a n c) l) (hr' : ReadsJ w (.slice a' n' c') m) (hn : Hid (n = l.length)) (hn' : Hid (n' = m.length)) (hl : n ≤ 9223372036854775806) : Calls Try.prog 29 #[.slice a n c, .slice a' n' c'] w fun e w' => e = .returned (.bool (decide (l = m))) ∧ Kept [] w w' := by
  by_cases hlen : n = n'
  · subst hlen
    obtain ⟨-, hc1, hc2⟩ := hr.bound
    obtain ⟨-, hc3, hc4⟩ := hr'.bound
    have HR := Hid.mk hr
    have HR' := Hid.mk hr'
    clear hr hr'
    have HL : Hid (l.length = m.length) := hn.out.symm.trans hn'.out
    generalize hD : decide (l = m) = D
    have HD := Hid.mk hD
    clear hD
    go_enter Try.func29, Try.ntmps29
    go_wp2_with fail
    go_loopw [13] (fun i wr => ∃ j : Nat, i = .int .i64 (j : Int) ∧ j ≤ n ∧ Hid (l.take j = m.take j) ∧ Kept [] w wr) (fun i _ => n - (intOf i).toNat)
    case atStart => exact ⟨0, rfl, by omega, Hid.mk rfl, Kept.refl [] w⟩
    case round =>
      obtain ⟨j, rfl, hj, ht, kk⟩ := hrel
      by_cases hlt : j < n
      · obtain ⟨x, hx⟩ : ∃ x, l[j]? = some x := ⟨_, List.getElem?_eq_getElem (by have := hn.out; omega)⟩
        obtain ⟨y, hy⟩ : ∃ y, m[j]? = some y := ⟨_, List.getElem?_eq_getElem (by have := hn'.out; omega)⟩
        obtain ⟨b, o, rfl, hcell⟩ := (HR.out.kept kk (by simp)).at hx
        obtain ⟨b', o', rfl, hcell'⟩ := (HR'.out.kept kk (by simp)).at hy
        have HK := Hid.mk kk
        have HX := Hid.mk hx
        have HY := Hid.mk hy
        clear hx hy kk
        have hjI : (j : Int) < (n : Int) := by omega
        by_cases hxy : x = y
        · subst hxy
          have hne : (x != x) = false := by simp
          go_wp2_with fail
          go_quiet (fail)
          go_wp2
          go_roundw
          case rel => exact ⟨j + 1, by go_num, by omega, by show _ = _; rw [List.take_add_one, List.take_add_one, ht.out, HX.out, HY.out], HK.out.drewN _⟩
          case measure => simp [intOf]; omega
        · have hne : (x != y) = true := by simp [hxy]
          go_wp2_with fail
          go_quiet (fail)
          go_wp2
          go_ret
          refine ⟨?_, HK.out.drewN _⟩
          have : D = false := by
            rw [← HD.out]
            simp only [decide_eq_false_iff_not]
            intro e
            have := HX.out.symm.trans ((congrArg (fun q : List Int => q[j]?) e).trans HY.out)
            simp at this
            exact hxy this
          rw [this]
          rfl
      · obtain rfl : j = n := by omega
        go_wp2
        go_ret
        refine ⟨?_, kk⟩
        have : D = true := by
          rw [← HD.out]
          simp only [decide_eq_true_eq]
          have := ht.out
          rwa [List.take_of_length_le (by rw [← hn.out]; exact Nat.le_refl _), List.take_of_length_le (by rw [← hn'.out]; exact Nat.le_refl _)] at this
        rw [this]
        rfl
  · generalize hD : decide (l = m) = D
    have : D = false := by rw [← hD]; simp; intro e; subst e; exact hlen (hn.out.trans hn'.out.symm)
    subst this
    have h1 : ((n : Int) != (n' : Int)) = true := by simp; omega
    clear hD hr hr'
    go_enter Try.func29, Try.ntmps29
    go_wp2_with fail
    go_ret
    exact ⟨rfl, Kept.refl [] w⟩
end
end Go.Proofs.Ytpcliempoagpoaa
