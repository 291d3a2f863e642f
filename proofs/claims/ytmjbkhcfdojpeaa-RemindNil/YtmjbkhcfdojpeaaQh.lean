/-
  New, Cancel, Due, Serve of a queue.
-/
import Derived.Test.YtmjbkhcfdojpeaaQg
import Derived.Test.YtmjbkhcfdojpeaaQe
namespace Go.Proofs.Ytmjbkhcfdojpeaa
set_option maxRecDepth 100000
open Go.RowKit Go.Shelf
set_option linter.unusedVariables false
/-- What Due tells. -/
def dueA : List Rm → Int → Rm × Bool
  | [], _ => (zr, false)
  | x :: _, now => if now < x.due then (zr, false) else (x, true)
/-- What Serve leaves. -/
def serQ : List Rm → Int → List Rm
  | [], _ => []
  | x :: Q, now => if now < x.due then x :: Q else serR x Q
theorem GoodQ.ser {Q : List Rm} (h : GoodQ Q) (now : Int) : GoodQ (serQ Q now) := by
  cases Q with
  | nil => exact h
  | cons x Q =>
    rw [serQ]
    split
    · exact h
    · exact h.serve
theorem zeroC30 : Try.zeroCells30 = (cellsN []).toArray := by kernel_rfl
section
variable {w : World} {p : Nat} {Q : List Rm}
theorem new10 : Calls Try.prog 10 #[] w fun e w' => ∃ p, e = .returned (.pointer (some ⟨p, 0, none⟩)) ∧ IsQ w' p [] ∧ Kept [] w w' ∧ w.heap.size ≤ p := by
  go_enter Try.func10, Try.ntmps10
  go_wp2_with fail
  rw [zeroC30]
  go_ret
  exact ⟨_, rfl, IsQ.new w, (Kept.refl [] w).alloc _, Nat.le_refl _⟩
theorem cancel20_nil (ac nm : List UInt8) : Calls Try.prog 20 #[.pointer none, Sv ac, Sv nm] w fun e w' => e = .returned (.bool false) ∧ Kept [] w w' := by
  have HF := Hid.mk (find49_nil (w := w) ac nm)
  go_enter Try.func20, Try.ntmps20
  go_wp2_with fail
  refine HF.out.mono ?_
  rintro e w1 ⟨rfl, k1⟩
  go_wp2_with fail
  go_ret
  exact ⟨rfl, k1⟩
theorem idx_has (hQ : GoodQ Q) {ac nm : List UInt8} (h : hasR Q ac nm = true) : ∃ j : Nat, fI Q ac nm = (j : Int) ∧ j < Q.length ∧ Q.take j ++ Q.drop (j + 1) = canR Q ac nm := by
  rw [hasR_idx, decide_eq_true_eq] at h
  exact ⟨_, if_pos h, h, (can_idx hQ.one).symm⟩
theorem idx_not {ac nm : List UInt8} (h : hasR Q ac nm = false) : fI Q ac nm = -1 := by
  rw [hasR_idx, decide_eq_false_iff_not] at h
  exact if_neg h
set_option maxHeartbeats 1000000 in
theorem cancel20 (hB : IsQ w p Q) (hQ : GoodQ Q) (ac nm : List UInt8) : Calls Try.prog 20 #[.pointer (some ⟨p, 0, none⟩), Sv ac, Sv nm] w fun e w' => e = .returned (.bool (hasR Q ac nm)) ∧ IsQ w' p (canR Q ac nm) ∧ Kept [p] w w' := by
  have HF := Hid.mk (find49 hB ac nm)
  cases hh : hasR Q ac nm with
  | false =>
    rw [canR_none hh]
    rw [idx_not hh] at HF
    have HB := Hid.mk hB
    clear hB
    go_enter Try.func20, Try.ntmps20
    go_wp2_with fail
    refine HF.out.mono ?_
    rintro e w1 ⟨rfl, k1⟩
    go_wp2_with fail
    go_ret
    exact ⟨rfl, HB.out.kept0 k1, k1.mono (by simp)⟩
  | true =>
    obtain ⟨j, h1, h2, h3⟩ := idx_has hQ hh
    rw [h1] at HF
    rw [← h3]
    have HR : Hid (∀ W, Kept [] w W → Calls Try.prog 50 #[.pointer (some ⟨p, 0, none⟩), Iv (j : Int)] W fun e w' => e = .returned (.tuple #[]) ∧ IsQ w' p (Q.take j ++ Q.drop (j + 1)) ∧ Kept [p] W w') := fun W k => remove50 (hB.kept0 k) h2
    clear hB h1 h2 h3 hh
    generalize Q.take j ++ Q.drop (j + 1) = Q' at *
    go_enter Try.func20, Try.ntmps20
    go_wp2_with fail
    refine HF.out.mono ?_
    rintro e w1 ⟨rfl, k1⟩
    go_wp2_with fail
    refine (HR.out _ k1).mono ?_
    rintro e w2 ⟨rfl, h2, k2⟩
    go_wp2_with fail
    go_ret
    exact ⟨rfl, h2, (k1.mono (by simp)).trans k2 (by simp)⟩
set_option maxHeartbeats 1000000 in
theorem due24_nil (now : Int) : Calls Try.prog 21 #[.pointer none, Iv now] w fun e w' => e = .returned (.tuple #[Rv zr, .bool false]) ∧ Kept [] w w' := by
  go_enter Try.func21, Try.ntmps21
  go_wp2_with fail
  refine bodyPost_ret (results_cell_row2 (p := 4) (u := 5) (ty := 27) rfl _ _ w.heap.size 27 _ (0, 0) _ rfl (heap_alloc_new w _) Try.underlying27 rfl (by kernel_rfl) _ rfl) rfl ?_
  exact ⟨rfl, (Kept.refl [] w).alloc _⟩
/-- The cells of no reminder. -/
abbrev z5 : Array Value := #[.string { data := #[] }, .string { data := #[] }, .int .i64 0, .int .i64 0, .int .i64 0]
set_option maxHeartbeats 1000000 in
theorem due24 (hB : IsQ w p Q) (hQ : GoodQ Q) (now : Int) : Calls Try.prog 21 #[.pointer (some ⟨p, 0, none⟩), Iv now] w fun e w' => e = .returned (.tuple #[Rv (dueA Q now).1, .bool (dueA Q now).2]) ∧ Kept [] w w' := by
  obtain ⟨W0, e0, k0, hz0, hb0⟩ := box1 w (.cells #[.string { data := #[] }, .string { data := #[] }, .int .i64 0, .int .i64 0, .int .i64 0] 27)
  have hB0 := hB.kept0 k0
  have hcn := hB0.count
  obtain ⟨d0, d1, d2, d3, d4⟩ := cells5 hb0
  obtain ⟨f0, f1, f2, f3, f4⟩ := free5 hb0
  cases Q with
  | nil =>
    show Calls Try.prog 21 #[.pointer (some ⟨p, 0, none⟩), Iv now] w fun e w' => e = .returned (.tuple #[Rv zr, .bool false]) ∧ Kept [] w w'
    rw [List.length_nil] at hcn
    obtain ⟨W7, e7, k7, h7, -⟩ := put5 hb0 (.string { data := #[] }) (.string { data := #[] }) (.int .i64 0) (.int .i64 0) (.int .i64 0)
    have HK : Hid (Kept [] w W7) := k0.trans k7 (by simp)
    have H7 := Hid.mk h7
    clear k0 hz0 hb0 k7 h7 hB0 hB hQ
    go_enter Try.func21, Try.ntmps21
    go_wp2_with fail
    refine bodyPost_ret (results_cell_row2 (p := 4) (u := 5) (ty := 27) rfl _ _ w.heap.size 27 _ (0, 0) _ rfl H7.out Try.underlying27 rfl (by kernel_rfl) _ rfl) rfl ?_
    exact ⟨rfl, HK.out⟩
  | cons x Q =>
    have hx := hQ.ok x (by simp)
    have hxa := (isKey_iff _).1 hx.ac
    have hxn := hx.nm
    obtain ⟨c0, c1, c2, c3, c4⟩ := hB0.at (j := 0) (x := x) rfl
    rw [Nat.zero_mul] at c0 c1 c2 c3 c4
    rw [Nat.zero_add] at c1 c2 c3 c4
    have hlen : ((x :: Q).length : Int) = (Q.length : Int) + 1 := by simp
    rw [hlen] at hcn
    have hne : (Q.length : Int) + 1 ≠ 0 := by omega
    have hneb : ((Q.length : Int) + 1 == 0) = false := by simpa using hne
    have HC : Hid (∀ W, Calls Try.prog 52 #[Rv x] W fun e w' => e = .returned (Rv x) ∧ Kept [] W w') := fun W => copyOf52 x (by omega) (by omega)
    clear hQ hx hxa hxn hlen hB hB0
    obtain ⟨ac, nm, due, per, kind⟩ := x
    dsimp only at HC c0 c1 c2 c3 c4
    generalize (Q.length : Int) + 1 = n at *
    rw [dueA]
    by_cases hnow : now < due
    · rw [if_pos hnow]
      obtain ⟨W7, e7, k7, h7, -⟩ := put5 hb0 (.string { data := #[] }) (.string { data := #[] }) (.int .i64 0) (.int .i64 0) (.int .i64 0)
      have HK : Hid (Kept [] w W7) := k0.trans k7 (by simp)
      have H7 := Hid.mk h7
      clear k0 hz0 hb0 k7 h7
      go_enter Try.func21, Try.ntmps21
      go_wp2_with fail
      refine bodyPost_ret (results_cell_row2 (p := 4) (u := 5) (ty := 27) rfl _ _ w.heap.size 27 _ (0, 0) _ rfl H7.out Try.underlying27 rfl (by kernel_rfl) _ rfl) rfl ?_
      exact ⟨rfl, HK.out⟩
    · rw [if_neg hnow]
      have HK0 := Hid.mk k0
      have HB0 := Hid.mk hb0
      clear hz0 k0 hb0
      go_enter Try.func21, Try.ntmps21
      go_wp2_with fail
      refine (HC.out _).mono ?_
      rintro e w1 ⟨rfl, k1⟩
      clear d0 d1 d2 d3 d4 f0 f1 f2 f3 f4
      have hb1 := k1.keeps HB0.out (by simp)
      obtain ⟨d0, d1, d2, d3, d4⟩ := cells5 hb1
      obtain ⟨f0, f1, f2, f3, f4⟩ := free5 hb1
      obtain ⟨W7, e7, k7, h7, -⟩ := put5 hb1 (Sv ac) (Sv nm) (Iv due) (Iv per) (Iv kind)
      have HK : Hid (Kept [] w W7) := (HK0.out.trans k1 (by simp)).trans k7 (by simp)
      have H7 := Hid.mk h7
      clear k7 h7 k1 hb1
      go_wp2_with fail
      refine bodyPost_ret (results_cell_row2 (p := 4) (u := 5) (ty := 27) rfl _ _ w.heap.size 27 _ (0, 0) _ rfl H7.out Try.underlying27 rfl (by kernel_rfl) _ rfl) rfl ?_
      exact ⟨rfl, HK.out⟩
end
end Go.Proofs.Ytmjbkhcfdojpeaa
