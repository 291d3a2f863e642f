/-
  Serve of a queue.
-/
import Derived.Test.YtmjbkhcfdojpeaaQh
namespace Go.Proofs.Ytmjbkhcfdojpeaa
set_option maxRecDepth 100000
open Go.RowKit Go.Shelf
set_option linter.unusedVariables false
section
variable {w : World} {p : Nat} {Q : List Rm}
set_option maxHeartbeats 1000000 in
theorem serve19_nil (now : Int) : Calls Try.prog 19 #[.pointer none, Iv now] w fun e w' => e = .returned (.tuple #[Rv zr, .bool false]) ∧ Kept [] w w' := by
  obtain ⟨W0, e0, k0, hz0, hb0⟩ := box1 w (.cells #[.string { data := #[] }, .string { data := #[] }, .int .i64 0, .int .i64 0, .int .i64 0] 27)
  have HD : Hid (∀ W, Calls Try.prog 21 #[.pointer none, Iv now] W fun e w' => e = .returned (.tuple #[.agg #[.string { data := #[] }, .string { data := #[] }, .int .i64 0, .int .i64 0, .int .i64 0], .bool false]) ∧ Kept [] W w') := fun W => due24_nil now
  have HK0 := Hid.mk k0
  have HB0 := Hid.mk hb0
  clear k0 hb0
  go_enter Try.func19, Try.ntmps19
  go_wp2_with fail
  refine (HD.out _).mono ?_
  rintro e w1 ⟨rfl, k1⟩
  have k2 := (Kept.refl [] w1).alloc (.cells #[.string { data := #[] }, .string { data := #[] }, .int .i64 0, .int .i64 0, .int .i64 0] 27)
  have hz2 : w1.heap.size < (w1.alloc (.cells #[.string { data := #[] }, .string { data := #[] }, .int .i64 0, .int .i64 0, .int .i64 0] 27)).heap.size := by simp
  have hb1 := k2.keeps (k1.keeps HB0.out (by simp)) (by simp)
  obtain ⟨d0, d1, d2, d3, d4⟩ := cells5 hb1
  obtain ⟨f0, f1, f2, f3, f4⟩ := free5 hb1
  obtain ⟨W7, e7, k7, h7, -⟩ := put5 hb1 (.string { data := #[] }) (.string { data := #[] }) (.int .i64 0) (.int .i64 0) (.int .i64 0)
  have HK : Hid (Kept [] w W7) := ((HK0.out.trans k1 (by simp)).trans k2 (by simp)).trans k7 (by simp)
  have H7 := Hid.mk h7
  clear k7 h7 k1 hb1 k2 hz2
  go_wp2_with fail
  refine bodyPost_ret (results_cell_row2 (p := 4) (u := 5) (ty := 27) rfl _ _ w.heap.size 27 _ (0, 0) _ rfl H7.out Try.underlying27 rfl (by kernel_rfl) _ rfl) rfl ?_
  exact ⟨rfl, HK.out⟩
set_option maxHeartbeats 1000000 in
theorem serve19_no (hB : IsQ w p Q) (hQ : GoodQ Q) (now : Int) (hno : dueA Q now = (zr, false)) : Calls Try.prog 19 #[.pointer (some ⟨p, 0, none⟩), Iv now] w fun e w' => e = .returned (.tuple #[Rv zr, .bool false]) ∧ Kept [] w w' := by
  obtain ⟨W0, e0, k0, hz0, hb0⟩ := box1 w (.cells #[.string { data := #[] }, .string { data := #[] }, .int .i64 0, .int .i64 0, .int .i64 0] 27)
  have HD : Hid (∀ W, Kept [] w W → Calls Try.prog 21 #[.pointer (some ⟨p, 0, none⟩), Iv now] W fun e w' => e = .returned (.tuple #[.agg #[.string { data := #[] }, .string { data := #[] }, .int .i64 0, .int .i64 0, .int .i64 0], .bool false]) ∧ Kept [] W w') := fun W k => by
    have := due24 (hB.kept0 k) hQ now
    rw [hno] at this
    exact this
  have HK0 := Hid.mk k0
  have HB0 := Hid.mk hb0
  clear k0 hb0 hB hQ hno
  go_enter Try.func19, Try.ntmps19
  go_wp2_with fail
  refine (HD.out _ HK0.out).mono ?_
  rintro e w1 ⟨rfl, k1⟩
  have k2 := (Kept.refl [] w1).alloc (.cells #[.string { data := #[] }, .string { data := #[] }, .int .i64 0, .int .i64 0, .int .i64 0] 27)
  have hz2 : w1.heap.size < (w1.alloc (.cells #[.string { data := #[] }, .string { data := #[] }, .int .i64 0, .int .i64 0, .int .i64 0] 27)).heap.size := by simp
  have hb1 := k2.keeps (k1.keeps HB0.out (by simp)) (by simp)
  obtain ⟨d0, d1, d2, d3, d4⟩ := cells5 hb1
  obtain ⟨f0, f1, f2, f3, f4⟩ := free5 hb1
  obtain ⟨W7, e7, k7, h7, -⟩ := put5 hb1 (.string { data := #[] }) (.string { data := #[] }) (.int .i64 0) (.int .i64 0) (.int .i64 0)
  have HK : Hid (Kept [] w W7) := ((HK0.out.trans k1 (by simp)).trans k2 (by simp)).trans k7 (by simp)
  have H7 := Hid.mk h7
  clear k7 h7 k1 hb1 k2 hz2
  go_wp2_with fail
  refine bodyPost_ret (results_cell_row2 (p := 4) (u := 5) (ty := 27) rfl _ _ w.heap.size 27 _ (0, 0) _ rfl H7.out Try.underlying27 rfl (by kernel_rfl) _ rfl) rfl ?_
  exact ⟨rfl, HK.out⟩
set_option maxHeartbeats 1000000 in
theorem serve19_yes {x : Rm} (hB : IsQ w p (x :: Q)) (hQ : GoodQ (x :: Q)) (now : Int) (hno : ¬ now < x.due) : Calls Try.prog 19 #[.pointer (some ⟨p, 0, none⟩), Iv now] w fun e w' => e = .returned (.tuple #[Rv x, .bool true]) ∧ IsQ w' p (serR x Q) ∧ Kept [p] w w' := by
  obtain ⟨W0, e0, k0, hz0, hb0⟩ := box1 w (.cells #[.string { data := #[] }, .string { data := #[] }, .int .i64 0, .int .i64 0, .int .i64 0] 27)
  have HD : Hid (∀ W, Kept [] w W → Calls Try.prog 21 #[.pointer (some ⟨p, 0, none⟩), Iv now] W fun e w' => e = .returned (.tuple #[Rv x, .bool true]) ∧ Kept [] W w') := fun W k => by
    have := due24 (hB.kept0 k) hQ now
    rw [dueA, if_neg hno] at this
    exact this
  have HRM : Hid (∀ W, IsQ W p (x :: Q) → Calls Try.prog 50 #[.pointer (some ⟨p, 0, none⟩), Iv 0] W fun e w' => e = .returned (.tuple #[]) ∧ IsQ w' p Q ∧ Kept [p] W w') := fun W h => remove50 h (j := 0) (by simp)
  have HIN : Hid (∀ W, IsQ W p Q → Calls Try.prog 51 #[.pointer (some ⟨p, 0, none⟩), Rv (nextR x)] W fun e w' => e = .returned (.tuple #[]) ∧ IsQ w' p (layR Q (nextR x)) ∧ Kept [p] W w') := fun W h => insert51 h hQ.tail.ris _ (by have := hQ.len; simp at this; omega)
  have hx := hQ.ok x (by simp)
  have hx1 := hx.due
  have hx2 := hx.per
  have hx3 := hx.d64
  have hx4 := hx.p64
  have HS : Hid (serR x Q = if x.due + x.per ≤ 9223372036854775807 then layR Q (nextR x) else Q) := Hid.mk (by rw [serR, canR_head hQ])
  have HB := Hid.mk hB
  have hpl := hB.lt
  have HK0 := Hid.mk k0
  have HB0 := Hid.mk hb0
  clear k0 hb0 hB hQ hno hx
  unfold nextR at HIN HS
  obtain ⟨ac, nm, due, per, kind⟩ := x
  dsimp only at *
  go_enter Try.func19, Try.ntmps19
  go_wp2_with fail
  refine (HD.out _ HK0.out).mono ?_
  rintro e w1 ⟨rfl, k1⟩
  have k2 := (Kept.refl [] w1).alloc (.cells #[Sv ac, Sv nm, Iv due, Iv per, Iv kind] 27)
  have k02 := (HK0.out.trans k1 (by simp)).trans k2 (by simp)
  have hB2 := HB.out.kept0 k02
  obtain ⟨c0, c1, c2, c3, c4⟩ := hB2.at (j := 0) rfl
  rw [Nat.zero_mul] at c0 c1 c2 c3 c4
  rw [Nat.zero_add] at c1 c2 c3 c4
  go_wp2_with fail
  obtain ⟨W3, e3, k3, hz3, hb3, hb4⟩ := box2 w1 (.cells #[Sv ac, Sv nm, Iv due, Iv per, Iv kind] 27) (.cells #[Sv ac, Sv nm, Iv due, Iv per, Iv kind] 27)
  rw [e3]
  have k03 := (HK0.out.trans k1 (by simp)).trans k3 (by simp)
  have hB3 := HB.out.kept0 k03
  have hz1 : w.heap.size < w1.heap.size := by
    have := k1.size
    omega
  refine (HRM.out _ hB3).mono ?_
  rintro e w4 ⟨rfl, h4, k4⟩
  have hb5 := k4.keeps hb3 (by simp; omega)
  have hb6 := k4.keeps hb4 (by simp; omega)
  have hb7 := k4.keeps (k3.keeps (k1.keeps HB0.out (by simp)) (by simp)) (by simp; omega)
  have k04 : Kept [p] w w4 := (k03.mono (by simp)).trans k4 (by simp)
  have hz4 : w1.heap.size + 2 ≤ w4.heap.size := by
    have := k4.size
    omega
  clear hB3 k03 k3 hb3 hb4 e3 c0 c1 c2 c3 c4 hB2 k02 k2 k1 k4
  obtain ⟨a0, a1, a2, a3, a4⟩ := cells5 hb5
  obtain ⟨b0, b1, b2, b3, b4⟩ := cells5 hb6
  obtain ⟨g0, g1, g2, g3, g4⟩ := free5 hb6
  obtain ⟨d0, d1, d2, d3, d4⟩ := cells5 hb7
  obtain ⟨f0, f1, f2, f3, f4⟩ := free5 hb7
  by_cases hov : due + per ≤ 9223372036854775807
  · have hle : due ≤ 9223372036854775807 - per := by omega
    have hset := set5_2 (x := Iv (due + per)) hb6
    have kset := (Kept.refl [w1.heap.size + 1] w4).setCell (p := ⟨w1.heap.size + 1, 2, none⟩) (.inl (by simp)) (Iv (due + per))
    have h5 := h4.kept kset (by simp; omega)
    have hb8 := kset.keeps hb5 (by simp)
    have hb9 := kset.keeps hb7 (by simp; omega)
    have k05 : Kept [p] w (w4.setCell ⟨w1.heap.size + 1, 2, none⟩ (Iv (due + per))) := k04.trans kset (fun y hy => by simp at hy; subst hy; exact .inr (by omega))
    obtain ⟨W5, e5⟩ : ∃ W5, w4.setCell ⟨w1.heap.size + 1, 2, none⟩ (Iv (due + per)) = W5 := ⟨_, rfl⟩
    rw [e5] at hset h5 hb8 hb9 k05
    obtain ⟨r0, r1, r2, r3, r4⟩ := cells5 hset
    have HW := Hid.mk (And.intro h5 (And.intro hb8 (And.intro hb9 k05)))
    clear hset kset h5 hb8 hb9 k05 hb5 hb6 hb7 h4 k04 hz4
    go_wp2_with fail
    refine (HIN.out _ HW.out.1).mono ?_
    rintro e w6 ⟨rfl, h6, k6⟩
    obtain ⟨-, hb8, hb9, k05⟩ := HW.out
    have hp0 : w1.heap.size ≠ p := by omega
    have hp1 : w.heap.size ≠ p := by omega
    have hb8 := k6.keeps hb8 (by simp; omega)
    have hb9 := k6.keeps hb9 (by simp; omega)
    clear a0 a1 a2 a3 a4 b0 b1 b2 b3 b4 g0 g1 g2 g3 g4 d0 d1 d2 d3 d4 f0 f1 f2 f3 f4 r0 r1 r2 r3 r4 e5
    obtain ⟨a0, a1, a2, a3, a4⟩ := cells5 hb8
    obtain ⟨d0, d1, d2, d3, d4⟩ := cells5 hb9
    obtain ⟨f0, f1, f2, f3, f4⟩ := free5 hb9
    obtain ⟨W7, e7, k7, h7, -⟩ := put5 hb9 (Sv ac) (Sv nm) (Iv due) (Iv per) (Iv kind)
    have HR := Hid.mk (And.intro (h6.kept k7 (by simp; omega)) ((k05.trans k6 (by simp)).trans k7 (fun y hy => by simp at hy; subst hy; exact .inr (Nat.le_refl _))))
    have H7 := Hid.mk h7
    clear k6 h6 k7 h7 hb8 hb9 k05 HW
    go_wp2_with fail
    refine bodyPost_ret (results_cell_row2 (p := 4) (u := 5) (ty := 27) rfl _ _ w.heap.size 27 _ (0, 0) _ rfl H7.out Try.underlying27 rfl (by kernel_rfl) _ rfl) rfl ?_
    rw [HS.out, if_pos hov]
    exact ⟨rfl, HR.out.1, HR.out.2⟩
  · have hle : ¬ due ≤ 9223372036854775807 - per := by omega
    obtain ⟨W7, e7, k7, h7, -⟩ := put5 hb7 (Sv ac) (Sv nm) (Iv due) (Iv per) (Iv kind)
    have HR := Hid.mk (And.intro (h4.kept k7 (by simp; omega)) (k04.trans k7 (fun y hy => by simp at hy; subst hy; exact .inr (Nat.le_refl _))))
    have H7 := Hid.mk h7
    clear k7 h7 hb5 hb6 hb7 h4 k04
    go_wp2_with fail
    refine bodyPost_ret (results_cell_row2 (p := 4) (u := 5) (ty := 27) rfl _ _ w.heap.size 27 _ (0, 0) _ rfl H7.out Try.underlying27 rfl (by kernel_rfl) _ rfl) rfl ?_
    rw [HS.out, if_neg (by omega)]
    exact ⟨rfl, HR.out.1, HR.out.2⟩
theorem serve19 (hB : IsQ w p Q) (hQ : GoodQ Q) (now : Int) : Calls Try.prog 19 #[.pointer (some ⟨p, 0, none⟩), Iv now] w fun e w' => e = .returned (.tuple #[Rv (dueA Q now).1, .bool (dueA Q now).2]) ∧ IsQ w' p (serQ Q now) ∧ Kept [p] w w' := by
  cases Q with
  | nil => exact (serve19_no hB hQ now rfl).mono fun e w' h => ⟨h.1, hB.kept0 h.2, h.2.mono (by simp)⟩
  | cons x Q =>
    by_cases hn : now < x.due
    · have e1 : dueA (x :: Q) now = (zr, false) := if_pos hn
      have e2 : serQ (x :: Q) now = x :: Q := if_pos hn
      rw [e1, e2]
      exact (serve19_no hB hQ now e1).mono fun e w' h => ⟨h.1, hB.kept0 h.2, h.2.mono (by simp)⟩
    · have e1 : dueA (x :: Q) now = (x, true) := if_neg hn
      have e2 : serQ (x :: Q) now = serR x Q := if_neg hn
      rw [e1, e2]
      exact serve19_yes hB hQ now hn
end
end Go.Proofs.Ytmjbkhcfdojpeaa
