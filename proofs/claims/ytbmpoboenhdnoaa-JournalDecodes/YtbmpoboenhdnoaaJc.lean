/-
  Add and Fold of a journal.
-/
import Derived.Test.YtbmpoboenhdnoaaJb
import Derived.Lib.MinMax
import Derived.Shelf.Abstract
namespace Go.Proofs.Ytbmpoboenhdnoaa
set_option maxRecDepth 100000
open Go.RowKit
set_option linter.unusedVariables false
/-- There is no such register. -/
def badE (e : Ep) : Bool := decide (e.1 < 0) || decide (8 ≤ e.1)
theorem badE_no {e : Ep} (h : badE e = false) : 0 ≤ e.1 ∧ e.1 < 8 := by
  simp [badE] at h
  omega
/-- What Add answers. -/
def addC (l : List Ep) : Int := if l.any badE = true then 3 else 0
/-- What Add leaves. -/
def addR (j : Jn) (l : List Ep) : Jn := if l.any badE = true then j else addA j (l.map toE)
theorem any_idx (l : List Ep) : l.any badE = decide (l.findIdx badE < l.length) := by
  rw [Bool.eq_iff_iff, decide_eq_true_eq, List.findIdx_lt_length, List.any_eq_true]
/-- What IndexFunc answers. -/
def fE (l : List Ep) : Int := if l.findIdx badE < l.length then (l.findIdx badE : Int) else -1
section
variable {w : World} {p : Nat} {j : Jn}
set_option maxHeartbeats 1000000 in
theorem out27 (e : Ep) : Calls Try.prog 27 #[Vv e] w fun x w' => x = .returned (.bool (badE e)) ∧ Kept [] w w' := by
  obtain ⟨r, v⟩ := e
  show Calls Try.prog 27 #[.agg #[Iv r, Iv v]] w _
  have k0 : Kept [] w (w.alloc (.cells #[Iv r, Iv v] 34)) := (Kept.refl [] w).alloc _
  unfold badE
  dsimp only
  by_cases h1 : r < 0
  · rw [decide_eq_true h1, Bool.true_or]
    go_enter Try.func27, Try.ntmps27
    go_wp2_with fail
    go_ret
    exact ⟨rfl, k0⟩
  · rw [decide_eq_false h1, Bool.false_or]
    go_enter Try.func27, Try.ntmps27
    go_wp2_with fail
    go_ret
    exact ⟨rfl, k0⟩
set_option maxHeartbeats 1000000 in
theorem index46 {v : Value} {l : List Ep} (hR : ReadsR 2 w v (CE l)) (hl : l.length ≤ 1000000) : Calls Try.prog 46 #[v, .func (.func 27) #[] #[]] w fun e w' => e = .returned (Iv (fE l)) ∧ Kept [] w w' := by
  have eg : ∀ args w, (callFunc 27 args).run Try.prog w = .ok (.enter 27 args) w := enters_of Try.func27 (by kernel_rfl) rfl
  obtain ⟨a, c, rfl, hc1, hc2⟩ := rowE_form hR
  obtain ⟨R, hRR⟩ : ∃ R, Hid (fE l = R) := ⟨_, rfl⟩
  rw [hRR.out]
  have hle := List.findIdx_le_length (p := badE) (xs := l)
  obtain ⟨P, hP⟩ : ∃ P, Hid (l.findIdx badE = P) := ⟨_, rfl⟩
  rw [hP.out] at hle
  have HW := Hid.mk hR
  clear hR
  generalize hnn : l.length = n at *
  have HN := Hid.mk hnn
  clear hnn
  go_enter Try.func46, Try.ntmps46
  go_wp2_with fail
  go_loopw [8] (fun i wr => ∃ k : Nat, Hid (Kept [] w wr) ∧ i = .int .i64 (k : Int) ∧ k ≤ P) (fun i _ => n - (intOf i).toNat)
  case atStart => exact ⟨0, Hid.mk (Kept.refl [] w), rfl, by omega⟩
  case round =>
    obtain ⟨k, kk, rfl, hk⟩ := hrel
    by_cases hlt : k < n
    · have hkl : k < l.length := by have := HN.out; omega
      obtain ⟨x, hx⟩ : ∃ x, l[k]? = some x := ⟨_, List.getElem?_eq_getElem hkl⟩
      obtain ⟨b, o, rfl, d0, d1⟩ := rowE_at (ReadsR.kept HW.out kk.out (by simp)) hx
      have hcc := out27 (w := wr) x
      have hjI : (k : Int) < (n : Int) := by omega
      have hxe : l[k]'hkl = x := (List.getElem?_eq_some_iff.1 hx).2
      by_cases hkP : k < P
      · have hs : badE x = false := by
          have := List.not_of_lt_findIdx (p := badE) (xs := l) (i := k) (by rw [hP.out]; exact hkP)
          rw [hxe] at this
          simpa using this
        rw [hs] at hcc
        have HC := Hid.mk hcc
        clear hcc hx hs hxe
        go_wp2_with (go_at_fn 27; refine HC.out.mono ?_; rintro e w' ⟨rfl, k1⟩; have HK := Hid.mk (kk.out.trans k1 (by simp)); clear k1)
        go_roundw
        case rel => exact ⟨k + 1, HK, by go_num, by omega⟩
        case measure => simp [intOf]; omega
      · obtain rfl : k = P := by omega
        have hs : badE x = true := by
          have h1 := List.findIdx_getElem (p := badE) (xs := l) (w := by rw [hP.out]; exact hkl)
          have h2 : l[l.findIdx badE]'(by rw [hP.out]; exact hkl) = x := by
            have : l[l.findIdx badE]? = some x := by rw [hP.out]; exact hx
            exact (List.getElem?_eq_some_iff.1 this).2
          rw [h2] at h1
          exact h1
        rw [hs] at hcc
        have HC := Hid.mk hcc
        have e : R = (k : Int) := by
          rw [← hRR.out, fE, if_pos (by rw [hP.out, HN.out]; exact hlt), hP.out]
        subst e
        clear hcc hx hs hxe
        go_wp2_with (go_at_fn 27; refine HC.out.mono ?_; rintro e w' ⟨rfl, k1⟩; have HK := Hid.mk (kk.out.trans k1 (by simp)); clear k1)
        go_ret
        exact ⟨rfl, HK.out⟩
    · have e : R = -1 := by
        rw [← hRR.out, fE, if_neg (by rw [hP.out, HN.out]; omega)]
      subst e
      go_wp2_with fail
      go_ret
      exact ⟨rfl, kk.out⟩
theorem contains26 {v : Value} {l : List Ep} (hR : ReadsR 2 w v (CE l)) (hl : l.length ≤ 1000000) : Calls Try.prog 26 #[v, .func (.func 27) #[] #[]] w fun e w' => e = .returned (.bool (l.any badE)) ∧ Kept [] w w' := by
  have HC := Hid.mk (index46 hR hl)
  have hq : decide (0 ≤ fE l) = l.any badE := by
    rw [any_idx, fE]
    split <;> simp [*]
  have HQ := Hid.mk hq
  clear hR hq
  generalize fE l = f at *
  go_enter Try.func26, Try.ntmps26
  go_wp2_with fail
  refine HC.out.mono ?_
  rintro e w1 ⟨rfl, k1⟩
  go_wp2_with fail
  go_ret
  exact ⟨by rw [← HQ.out]; rfl, k1⟩
set_option maxHeartbeats 2000000 in
theorem add12_nil (v : Value) : Calls Try.prog 12 #[.pointer none, v] w fun e w' => e = .returned (Iv 1) ∧ w = w' := by
  go_enter Try.func12, Try.ntmps12
  go_wp2_with fail
  go_ret
  exact ⟨rfl, rfl⟩
end
end Go.Proofs.Ytbmpoboenhdnoaa
