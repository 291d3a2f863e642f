/-
  The document's queue: Serve.
-/
import Derived.Test.YtelmppfacgdfbaaRt
namespace Go.Proofs.Ytelmppfacgdfbaa
set_option maxRecDepth 100000
open Go.RowKit Go.Shelf
set_option linter.unusedVariables false
section
variable {w : World} {f : Nat} {Q : List Rm}
set_option maxHeartbeats 1000000 in
theorem serve22_no (hH : HasF w f Q) (hl : Q.length ≤ 1000) (now : Int) (hno : dueA Q now = (zr, false)) : Calls Try.prog 22 #[.pointer (some ⟨f, 0, none⟩), Iv now] w fun e w' => e = .returned (.tuple #[Rv zr, .bool false]) ∧ Kept [] w w' := by
  obtain ⟨W0, e0, k0, hz0, hb0⟩ := box1 w (.cells #[.string { data := #[] }, .string { data := #[] }, .int .i64 0, .int .i64 0, .int .i64 0] 52)
  have HD : Hid (∀ W, Kept [] w W → Calls Try.prog 25 #[.pointer (some ⟨f, 0, none⟩), Iv now] W fun e w' => e = .returned (.tuple #[.agg #[.string { data := #[] }, .string { data := #[] }, .int .i64 0, .int .i64 0, .int .i64 0], .bool false]) ∧ Kept [] W w') := fun W k => by
    have := due25 (hH.kept0 k) hl now
    rw [hno] at this
    exact this
  have HK0 := Hid.mk k0
  have HB0 := Hid.mk hb0
  clear k0 hb0 hH hno
  go_enter Try.func22, Try.ntmps22
  go_wp2_with fail
  refine (HD.out _ HK0.out).mono ?_
  rintro e w1 ⟨rfl, k1⟩
  have k2 := (Kept.refl [] w1).alloc (.cells #[.string { data := #[] }, .string { data := #[] }, .int .i64 0, .int .i64 0, .int .i64 0] 52)
  have hz2 : w1.heap.size < (w1.alloc (.cells #[.string { data := #[] }, .string { data := #[] }, .int .i64 0, .int .i64 0, .int .i64 0] 52)).heap.size := by simp
  have hb1 := k2.keeps (k1.keeps HB0.out (by simp)) (by simp)
  obtain ⟨d0, d1, d2, d3, d4⟩ := cells5 hb1
  obtain ⟨f0, f1, f2, f3, f4⟩ := free5 hb1
  obtain ⟨W7, e7, k7, h7, -⟩ := put5 hb1 (.string { data := #[] }) (.string { data := #[] }) (.int .i64 0) (.int .i64 0) (.int .i64 0)
  have HK : Hid (Kept [] w W7) := ((HK0.out.trans k1 (by simp)).trans k2 (by simp)).trans k7 (by simp)
  have H7 := Hid.mk h7
  clear k7 h7 k1 hb1 k2 hz2
  go_wp2_with fail
  refine bodyPost_ret (results_cell_row2 (p := 4) (u := 5) (ty := 52) rfl _ _ w.heap.size 52 _ (0, 0) _ rfl H7.out Try.underlying52 rfl (by kernel_rfl) _ rfl) rfl ?_
  exact ⟨rfl, HK.out⟩
set_option maxHeartbeats 1000000 in
theorem serve22_yes {x : Rm} (hH : HasF w f (x :: Q)) (hQ : GoodQ (x :: Q)) (now : Int) (hno : ¬ now < x.due) : Calls Try.prog 22 #[.pointer (some ⟨f, 0, none⟩), Iv now] w fun e w' => e = .returned (.tuple #[Rv x, .bool true]) ∧ HasF w' f (serR x Q) ∧ Kept [f] w w' := by
  obtain ⟨W0, e0, k0, hz0, hb0⟩ := box1 w (.cells #[.string { data := #[] }, .string { data := #[] }, .int .i64 0, .int .i64 0, .int .i64 0] 52)
  have hlen := hQ.len
  have HD : Hid (∀ W, Kept [] w W → Calls Try.prog 25 #[.pointer (some ⟨f, 0, none⟩), Iv now] W fun e w' => e = .returned (.tuple #[Rv x, .bool true]) ∧ Kept [] W w') := fun W k => by
    have := due25 (hH.kept0 k) (by omega) now
    rw [dueA, if_neg hno] at this
    exact this
  have HC : Hid (∀ W, Kept [] w W → Calls Try.prog 23 #[.pointer (some ⟨f, 0, none⟩), Sv x.ac, Sv x.nm] W fun e w' => e = .returned (.bool (hasR (x :: Q) x.ac x.nm)) ∧ (∃ u, IsF w' f u (canR (x :: Q) x.ac x.nm) ∧ Fresh W u) ∧ Kept [f] W w') := fun W k => by
    obtain ⟨v, h⟩ := hH.kept0 k
    exact cancel23 h (by omega) _ _
  have hcl : (canR (x :: Q) x.ac x.nm).length ≤ 1000 := Nat.le_trans (List.length_filter_le _ _) (by omega)
  have HY : Hid (∀ W, HasF W f (canR (x :: Q) x.ac x.nm) → Calls Try.prog 53 #[.pointer (some ⟨f, 0, none⟩), Rv (nextR x)] W fun e w' => e = .returned (.tuple #[]) ∧ (∃ u, IsF w' f u (layR (canR (x :: Q) x.ac x.nm) (nextR x)) ∧ Fresh W u) ∧ Kept [f] W w') := fun W h => by
    obtain ⟨v, h⟩ := h
    exact lay53 h hcl _
  have HS : Hid (serR x Q = if x.due + x.per ≤ 9223372036854775807 then layR (canR (x :: Q) x.ac x.nm) (nextR x) else canR (x :: Q) x.ac x.nm) := Hid.mk rfl
  have hx := hQ.ok x (by simp)
  have hx1 := hx.due
  have hx2 := hx.per
  have hx3 := hx.d64
  have hx4 := hx.p64
  have hfl := hH.lt
  have HK0 := Hid.mk k0
  have HB0 := Hid.mk hb0
  clear k0 hb0 hH hQ hno hx hcl hlen
  unfold nextR at HY HS
  obtain ⟨ac, nm, due, per, kind⟩ := x
  dsimp only at *
  generalize layR (canR (⟨ac, nm, due, per, kind⟩ :: Q) ac nm) ⟨ac, nm, due + per, per, kind⟩ = Q2 at *
  generalize canR (⟨ac, nm, due, per, kind⟩ :: Q) ac nm = Q1 at *
  generalize hasR (⟨ac, nm, due, per, kind⟩ :: Q) ac nm = hb at *
  generalize serR ⟨ac, nm, due, per, kind⟩ Q = Q3 at *
  go_enter Try.func22, Try.ntmps22
  go_wp2_with fail
  refine (HD.out _ HK0.out).mono ?_
  rintro e w1 ⟨rfl, k1⟩
  have hz1 : w.heap.size < w1.heap.size := by
    have := k1.size
    omega
  go_wp2_with fail
  obtain ⟨W3, e3, k3, hz3, hb3⟩ := box1 w1 (.cells #[Sv ac, Sv nm, Iv due, Iv per, Iv kind] 52)
  rw [e3]
  have k03 := (HK0.out.trans k1 (by simp)).trans k3 (by simp)
  refine (HC.out _ k03).mono ?_
  rintro e w4 ⟨rfl, h4, k4⟩
  have hb5 := k4.keeps hb3 (by simp; omega)
  have hb7 := k4.keeps (k3.keeps (k1.keeps HB0.out (by simp)) (by simp)) (by simp; omega)
  have hz4 : w.heap.size < w4.heap.size := by
    have := k4.size
    omega
  have k04 : Kept [f] w w4 := (k03.mono (by simp)).trans k4 (by simp)
  clear k03 k3 hb3 e3 k1 k4
  obtain ⟨a0, a1, a2, a3, a4⟩ := cells5 hb5
  obtain ⟨d0, d1, d2, d3, d4⟩ := cells5 hb7
  obtain ⟨f0, f1, f2, f3, f4⟩ := free5 hb7
  have hw1 : IntKind.u64.wrap due = due := by rw [IntKind.wrap_u64]; omega
  have hw2 : IntKind.u64.wrap per = per := by rw [IntKind.wrap_u64]; omega
  have hw3 : IntKind.u64.wrap (due + per) = due + per := by rw [IntKind.wrap_u64]; omega
  by_cases hov : due + per ≤ 9223372036854775807
  · have hle : due + per < 9223372036854775808 := by omega
    have hw4 : IntKind.i64.wrap (due + per) = due + per := by rw [IntKind.wrap_i64]; omega
    have HW := Hid.mk (And.intro (⟨h4.choose, h4.choose_spec.1⟩ : HasF w4 f Q1) (And.intro hb5 (And.intro hb7 k04)))
    clear hb5 hb7 h4 k04
    go_wp2_with fail
    refine (HY.out _ HW.out.1).mono ?_
    rintro e w6 ⟨rfl, h6, k6⟩
    obtain ⟨-, hb8, hb9, k05⟩ := HW.out
    have hb8 := k6.keeps hb8 (by simp; omega)
    have hb9 := k6.keeps hb9 (by simp; omega)
    clear a0 a1 a2 a3 a4 d0 d1 d2 d3 d4 f0 f1 f2 f3 f4
    obtain ⟨a0, a1, a2, a3, a4⟩ := cells5 hb8
    obtain ⟨d0, d1, d2, d3, d4⟩ := cells5 hb9
    obtain ⟨f0, f1, f2, f3, f4⟩ := free5 hb9
    obtain ⟨W7, e7, k7, h7, -⟩ := put5 hb9 (Sv ac) (Sv nm) (Iv due) (Iv per) (Iv kind)
    have hR7 : HasF W7 f Q2 := by
      obtain ⟨u, hu, hfr⟩ := h6
      refine ⟨u, hu.kept k7 (by simp; omega) (fun g hg hm => ?_)⟩
      simp at hm
      subst hm
      have := hfr _ hg
      omega
    have HR := Hid.mk (And.intro hR7 ((k05.trans k6 (by simp)).trans k7 (fun y hy => by simp at hy; subst hy; exact .inr (Nat.le_refl _))))
    have H7 := Hid.mk h7
    clear k6 h6 k7 h7 hb8 hb9 k05 HW hR7
    go_wp2_with fail
    refine bodyPost_ret (results_cell_row2 (p := 4) (u := 5) (ty := 52) rfl _ _ w.heap.size 52 _ (0, 0) _ rfl H7.out Try.underlying52 rfl (by kernel_rfl) _ rfl) rfl ?_
    rw [HS.out, if_pos hov]
    exact ⟨rfl, HR.out.1, HR.out.2⟩
  · have hle : ¬ due + per < 9223372036854775808 := by omega
    obtain ⟨W7, e7, k7, h7, -⟩ := put5 hb7 (Sv ac) (Sv nm) (Iv due) (Iv per) (Iv kind)
    have hR7 : HasF W7 f Q1 := by
      obtain ⟨u, hu, hfr⟩ := h4
      refine ⟨u, hu.kept k7 (by simp; omega) (fun g hg hm => ?_)⟩
      simp at hm
      subst hm
      have := hfr _ hg
      omega
    have HR := Hid.mk (And.intro hR7 (k04.trans k7 (fun y hy => by simp at hy; subst hy; exact .inr (Nat.le_refl _))))
    have H7 := Hid.mk h7
    clear k7 h7 hb5 hb7 h4 k04 hR7
    go_wp2_with fail
    refine bodyPost_ret (results_cell_row2 (p := 4) (u := 5) (ty := 52) rfl _ _ w.heap.size 52 _ (0, 0) _ rfl H7.out Try.underlying52 rfl (by kernel_rfl) _ rfl) rfl ?_
    rw [HS.out, if_neg (by omega)]
    exact ⟨rfl, HR.out.1, HR.out.2⟩
theorem serve22 (hH : HasF w f Q) (hQ : GoodQ Q) (now : Int) : Calls Try.prog 22 #[.pointer (some ⟨f, 0, none⟩), Iv now] w fun e w' => e = .returned (.tuple #[Rv (dueA Q now).1, .bool (dueA Q now).2]) ∧ HasF w' f (serQ Q now) ∧ Kept [f] w w' := by
  have hlen := hQ.len
  cases Q with
  | nil => exact (serve22_no hH (by simp) now rfl).mono fun e w' h => ⟨h.1, hH.kept0 h.2, h.2.mono (by simp)⟩
  | cons x Q =>
    by_cases hn : now < x.due
    · have e1 : dueA (x :: Q) now = (zr, false) := if_pos hn
      have e2 : serQ (x :: Q) now = x :: Q := if_pos hn
      rw [e1, e2]
      exact (serve22_no hH (by omega) now e1).mono fun e w' h => ⟨h.1, hH.kept0 h.2, h.2.mono (by simp)⟩
    · have e1 : dueA (x :: Q) now = (x, true) := if_neg hn
      have e2 : serQ (x :: Q) now = serR x Q := if_neg hn
      rw [e1, e2]
      exact serve22_yes hH hQ now hn
end
end Go.Proofs.Ytelmppfacgdfbaa
