/-
  The document's queue: Set, Due, Serve.
-/
import Derived.Test.YtelmppfacgdfbaaRl
import Derived.Test.YtelmppfacgdfbaaQh
namespace Go.Proofs.Ytelmppfacgdfbaa
set_option maxRecDepth 100000
open Go.RowKit Go.Shelf
set_option linter.unusedVariables false
section
variable {w : World} {f : Nat} {v : Value} {Q : List Rm}
/-- The document's queue, its row hidden. -/
def HasF (w : World) (f : Nat) (Q : List Rm) : Prop := ∃ v, IsF w f v Q
theorem HasF.kept0 {w' : World} (h : HasF w f Q) (k : Kept [] w w') : HasF w' f Q := by obtain ⟨v, h⟩ := h; exact ⟨v, h.kept0 k⟩
theorem HasF.lt (h : HasF w f Q) : f < w.heap.size := by obtain ⟨v, h⟩ := h; exact h.lt
theorem lay53' (h : HasF w f Q) (hl : Q.length ≤ 1000) (r : Rm) : Calls Try.prog 53 #[.pointer (some ⟨f, 0, none⟩), Rv r] w fun e w' => e = .returned (.tuple #[]) ∧ HasF w' f (layR Q r) ∧ Kept [f] w w' := by
  obtain ⟨v, h⟩ := h
  refine (lay53 h hl r).mono ?_
  rintro e w' ⟨rfl, ⟨u, hu, -⟩, k⟩
  exact ⟨rfl, ⟨u, hu⟩, k⟩
theorem cancel23' (h : HasF w f Q) (hl : Q.length ≤ 1000) (ac nm : List UInt8) : Calls Try.prog 23 #[.pointer (some ⟨f, 0, none⟩), Sv ac, Sv nm] w fun e w' => e = .returned (.bool (hasR Q ac nm)) ∧ HasF w' f (canR Q ac nm) ∧ Kept [f] w w' := by
  obtain ⟨v, h⟩ := h
  refine (cancel23 h hl ac nm).mono ?_
  rintro e w' ⟨rfl, ⟨u, hu, -⟩, k⟩
  exact ⟨rfl, ⟨u, hu⟩, k⟩
set_option maxHeartbeats 1000000 in
theorem set21 (hH : HasF w f Q) (hQ : GoodQ Q) (r : Rm) (ha : r.ac.length ≤ 1000000) : Calls Try.prog 21 #[.pointer (some ⟨f, 0, none⟩), Rv r] w fun e w' => e = .returned (Iv (setA Q r)) ∧ HasF w' f (setQ Q r) ∧ Kept [f] w w' := by
  obtain ⟨W0, e0, k0, hz0, hb0⟩ := box1 w (.cells #[Sv r.ac, Sv r.nm, Iv r.due, Iv r.per, Iv r.kind] 52)
  have HW : Hid (∀ W, Calls Try.prog 42 #[Rv r] W fun e w' => e = .returned (Iv (errR r)) ∧ Kept [] W w') := fun W => wrong42 r (by omega)
  have hfl := hH.lt
  have hlen := hQ.len
  have HBX : Hid (∀ W, Kept [f] W0 W → W.cell? ⟨w.heap.size, 0, none⟩ = some (Sv r.ac) ∧ W.cell? ⟨w.heap.size, 1, none⟩ = some (Sv r.nm) ∧ W.cell? ⟨w.heap.size, 2, none⟩ = some (Iv r.due) ∧ W.cell? ⟨w.heap.size, 3, none⟩ = some (Iv r.per) ∧ W.cell? ⟨w.heap.size, 4, none⟩ = some (Iv r.kind)) := fun W k => cells5 (k.keeps hb0 (by simp; omega))
  obtain ⟨c0, c1, c2, c3, c4⟩ := cells5 hb0
  have HK0 := Hid.mk k0
  by_cases he : errR r = 0
  · obtain ⟨v, hF⟩ := hH
    have HH : Hid (∀ W, Kept [] w W → Calls Try.prog 43 #[.pointer (some ⟨f, 0, none⟩), Sv r.ac, Sv r.nm] W fun e w' => e = .returned (.bool (hasR Q r.ac r.nm)) ∧ W = w') := fun W k => has43 (hF.kept0 k) (by omega) r.ac r.nm
    obtain ⟨a, c, rfl, hc1, hc2⟩ := rowR_form hF.row
    have HX : Hid (∀ W, Kept [] w W → W.cell? ⟨f, 0, none⟩ = some (.slice a Q.length c)) := fun W k => (hF.kept0 k).cell
    have HC : Hid (∀ W, Kept [] w W → Calls Try.prog 23 #[.pointer (some ⟨f, 0, none⟩), Sv r.ac, Sv r.nm] W fun e w' => e = .returned (.bool (hasR Q r.ac r.nm)) ∧ HasF w' f (canR Q r.ac r.nm) ∧ Kept [f] W w') := fun W k => cancel23' ⟨_, hF.kept0 k⟩ (by omega) r.ac r.nm
    have hcl : (canR Q r.ac r.nm).length ≤ 1000 := Nat.le_trans (List.length_filter_le _ _) (by omega)
    have HY : Hid (∀ W, HasF W f (canR Q r.ac r.nm) → Calls Try.prog 53 #[.pointer (some ⟨f, 0, none⟩), Rv r] W fun e w' => e = .returned (.tuple #[]) ∧ HasF w' f (setR Q r) ∧ Kept [f] W w') := fun W h => lay53' h hcl r
    have HHF : Hid (∀ W, Kept [] w W → HasF W f Q) := fun W k => ⟨_, hF.kept0 k⟩
    rw [he] at HW
    cases hh : hasR Q r.ac r.nm with
    | true =>
      have e1 : setA Q r = 0 := by rw [setA, if_neg (by simp [he]), if_neg (by simp [hh])]
      rw [setQ, if_pos e1, e1]
      rw [hh] at HH HC
      generalize setR Q r = Q' at *
      generalize canR Q r.ac r.nm = Q1 at *
      obtain ⟨ac, nm, due, per, kind⟩ := r
      dsimp only at *
      clear hb0 k0 hz0 he hh hF e1 hQ hcl
      generalize Q.length = n at *
      go_enter Try.func21, Try.ntmps21
      go_wp2_with fail
      refine (HW.out _).mono ?_
      rintro e w1 ⟨rfl, k1⟩
      clear c0 c1 c2 c3 c4
      obtain ⟨c0, c1, c2, c3, c4⟩ := HBX.out _ (k1.mono (by simp))
      go_wp2_with fail
      refine (HH.out _ (HK0.out.trans k1 (by simp))).mono ?_
      rintro e w2 ⟨rfl, rfl⟩
      go_wp2_with fail
      refine (HC.out _ (HK0.out.trans k1 (by simp))).mono ?_
      rintro e w2 ⟨rfl, h2, k2⟩
      clear c0 c1 c2 c3 c4
      have k12 : Kept [f] W0 w2 := (k1.mono (by simp)).trans k2 (by simp)
      obtain ⟨c0, c1, c2, c3, c4⟩ := HBX.out _ k12
      go_wp2_with fail
      refine (HY.out _ h2).mono ?_
      rintro e w3 ⟨rfl, h3, k3⟩
      go_wp2_with fail
      go_ret
      exact ⟨rfl, h3, ((HK0.out.mono (by simp)).trans k12 (by simp)).trans k3 (by simp)⟩
    | false =>
      rw [hh] at HH HC
      by_cases hf : Q.length = 64
      · have e1 : setA Q r = 6 := by rw [setA, if_neg (by simp [he]), if_pos ⟨hh, hf⟩]
        rw [setQ, if_neg (by rw [e1]; decide), e1]
        rw [hf] at HX
        obtain ⟨ac, nm, due, per, kind⟩ := r
        dsimp only at *
        clear hb0 k0 hz0 he hh hF e1 hQ hcl HC HY
        go_enter Try.func21, Try.ntmps21
        go_wp2_with fail
        refine (HW.out _).mono ?_
        rintro e w1 ⟨rfl, k1⟩
        clear c0 c1 c2 c3 c4
        obtain ⟨c0, c1, c2, c3, c4⟩ := HBX.out _ (k1.mono (by simp))
        have x1 := HX.out _ (HK0.out.trans k1 (by simp))
        go_wp2_with fail
        refine (HH.out _ (HK0.out.trans k1 (by simp))).mono ?_
        rintro e w2 ⟨rfl, rfl⟩
        go_wp2_with fail
        go_ret
        exact ⟨rfl, HHF.out _ (HK0.out.trans k1 (by simp)), (HK0.out.trans k1 (by simp)).mono (by simp)⟩
      · have e1 : setA Q r = 0 := by rw [setA, if_neg (by simp [he]), if_neg (fun e => hf e.2)]
        rw [setQ, if_pos e1, e1]
        have hn64 : ((64 : Int) ≤ (Q.length : Int)) = False := eq_false (by omega)
        have hn63 : (Q.length : Int) < 64 := by omega
        generalize setR Q r = Q' at *
        generalize canR Q r.ac r.nm = Q1 at *
        obtain ⟨ac, nm, due, per, kind⟩ := r
        dsimp only at *
        clear hb0 k0 hz0 he hh hF e1 hQ hcl HHF
        generalize Q.length = n at *
        go_enter Try.func21, Try.ntmps21
        go_wp2_with fail
        refine (HW.out _).mono ?_
        rintro e w1 ⟨rfl, k1⟩
        clear c0 c1 c2 c3 c4
        obtain ⟨c0, c1, c2, c3, c4⟩ := HBX.out _ (k1.mono (by simp))
        have x1 := HX.out _ (HK0.out.trans k1 (by simp))
        go_wp2_with fail
        refine (HH.out _ (HK0.out.trans k1 (by simp))).mono ?_
        rintro e w2 ⟨rfl, rfl⟩
        go_wp2_with fail
        refine (HC.out _ (HK0.out.trans k1 (by simp))).mono ?_
        rintro e w2 ⟨rfl, h2, k2⟩
        clear c0 c1 c2 c3 c4 x1
        have k12 : Kept [f] W0 w2 := (k1.mono (by simp)).trans k2 (by simp)
        obtain ⟨c0, c1, c2, c3, c4⟩ := HBX.out _ k12
        go_wp2_with fail
        refine (HY.out _ h2).mono ?_
        rintro e w3 ⟨rfl, h3, k3⟩
        go_wp2_with fail
        go_ret
        exact ⟨rfl, h3, ((HK0.out.mono (by simp)).trans k12 (by simp)).trans k3 (by simp)⟩
  · have e1 : setA Q r = errR r := by rw [setA, if_pos he]
    rw [setQ, if_neg (by rw [e1]; exact he), e1]
    have HH := Hid.mk hH
    have hne : (errR r == 0) = false := by simpa using he
    generalize errR r = er at *
    obtain ⟨ac, nm, due, per, kind⟩ := r
    dsimp only at *
    clear hb0 k0 hz0 hH e1 hQ
    go_enter Try.func21, Try.ntmps21
    go_wp2_with fail
    refine (HW.out _).mono ?_
    rintro e w1 ⟨rfl, k1⟩
    go_wp2_with fail
    go_ret
    exact ⟨rfl, HH.out.kept0 (HK0.out.trans k1 (by simp)), (HK0.out.trans k1 (by simp)).mono (by simp)⟩
set_option maxHeartbeats 1000000 in
theorem due25 (hH : HasF w f Q) (hl : Q.length ≤ 1000) (now : Int) : Calls Try.prog 25 #[.pointer (some ⟨f, 0, none⟩), Iv now] w fun e w' => e = .returned (.tuple #[Rv (dueA Q now).1, .bool (dueA Q now).2]) ∧ Kept [] w w' := by
  obtain ⟨v, hF⟩ := hH
  obtain ⟨W0, e0, k0, hz0, hb0⟩ := box1 w (.cells #[.string { data := #[] }, .string { data := #[] }, .int .i64 0, .int .i64 0, .int .i64 0] 52)
  obtain ⟨a, c, rfl, hc1, hc2⟩ := rowR_form hF.row
  have hF0 := hF.kept0 k0
  have x0 := hF0.cell
  obtain ⟨d0, d1, d2, d3, d4⟩ := cells5 hb0
  obtain ⟨f0, f1, f2, f3, f4⟩ := free5 hb0
  cases Q with
  | nil =>
    show Calls Try.prog 25 #[.pointer (some ⟨f, 0, none⟩), Iv now] w fun e w' => e = .returned (.tuple #[Rv zr, .bool false]) ∧ Kept [] w w'
    rw [List.length_nil] at x0
    obtain ⟨W7, e7, k7, h7, -⟩ := put5 hb0 (.string { data := #[] }) (.string { data := #[] }) (.int .i64 0) (.int .i64 0) (.int .i64 0)
    have HK : Hid (Kept [] w W7) := k0.trans k7 (by simp)
    have H7 := Hid.mk h7
    clear k0 hz0 hb0 k7 h7 hF0 hF
    go_enter Try.func25, Try.ntmps25
    go_wp2_with fail
    refine bodyPost_ret (results_cell_row2 (p := 4) (u := 5) (ty := 52) rfl _ _ w.heap.size 52 _ (0, 0) _ rfl H7.out Try.underlying52 rfl (by kernel_rfl) _ rfl) rfl ?_
    exact ⟨rfl, HK.out⟩
  | cons x Q =>
    obtain ⟨b, o, rfl, c0, c1, c2, c3, c4⟩ := rowR_at hF0.row (j := 0) (y := x) rfl
    rw [Nat.zero_mul, Nat.add_zero] at c0 c1 c2 c3 c4
    have hlen : (((x :: Q).length : Nat) : Int) = (Q.length : Int) + 1 := by simp
    have hn1 : ((((x :: Q).length : Nat) : Int) == 0) = false := by rw [hlen]; simp; omega
    have hn2 : (0 : Int) < (((x :: Q).length : Nat) : Int) := by rw [hlen]; omega
    clear hF hF0 hlen hl
    generalize (x :: Q).length = n at *
    obtain ⟨ac, nm, due, per, kind⟩ := x
    dsimp only at c0 c1 c2 c3 c4
    rw [dueA]
    by_cases hnow : now < due
    · rw [if_pos hnow]
      obtain ⟨W7, e7, k7, h7, -⟩ := put5 hb0 (.string { data := #[] }) (.string { data := #[] }) (.int .i64 0) (.int .i64 0) (.int .i64 0)
      have HK : Hid (Kept [] w W7) := k0.trans k7 (by simp)
      have H7 := Hid.mk h7
      clear k0 hz0 hb0 k7 h7
      go_enter Try.func25, Try.ntmps25
      go_wp2_with fail
      refine bodyPost_ret (results_cell_row2 (p := 4) (u := 5) (ty := 52) rfl _ _ w.heap.size 52 _ (0, 0) _ rfl H7.out Try.underlying52 rfl (by kernel_rfl) _ rfl) rfl ?_
      exact ⟨rfl, HK.out⟩
    · rw [if_neg hnow]
      obtain ⟨W7, e7, k7, h7, -⟩ := put5 hb0 (Sv ac) (Sv nm) (Iv due) (Iv per) (Iv kind)
      have HK : Hid (Kept [] w W7) := k0.trans k7 (by simp)
      have H7 := Hid.mk h7
      clear k0 hz0 hb0 k7 h7
      go_enter Try.func25, Try.ntmps25
      go_wp2_with fail
      refine bodyPost_ret (results_cell_row2 (p := 4) (u := 5) (ty := 52) rfl _ _ w.heap.size 52 _ (0, 0) _ rfl H7.out Try.underlying52 rfl (by kernel_rfl) _ rfl) rfl ?_
      exact ⟨rfl, HK.out⟩
end
end Go.Proofs.Ytelmppfacgdfbaa
