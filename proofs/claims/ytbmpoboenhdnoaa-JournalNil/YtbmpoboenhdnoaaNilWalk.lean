/-
  JournalNil: a nil journal has nothing; answers are new memory.
-/
import Derived.Test.YtbmpoboenhdnoaaOn
import Derived.Test.YtbmpoboenhdnoaaEi
namespace Go.Proofs.Ytbmpoboenhdnoaa
set_option maxRecDepth 100000
open Go.RowKit
set_option linter.unusedVariables false
section
variable {w : World}
theorem encode21_nil : Calls Try.prog 21 #[.pointer none] w fun e w' => e = .returned (.slice none 0 0) ∧ w = w' := by
  go_enter Try.func21, Try.ntmps21
  go_wp2_with fail
  go_ret
  exact ⟨rfl, rfl⟩
/-- A row of one event: where it lies. -/
theorem own1 {v : Value} {y : Ep} (h : OwnsR 34 2 w v (CE [y])) : ∃ g cap, v = .slice (some ⟨g, 0, none⟩) 1 cap ∧ 1 ≤ cap ∧ cap ≤ 9223372036854775807 ∧ w.cell? ⟨g, 0, none⟩ = some (Iv y.1) ∧ w.cell? ⟨g, 1, none⟩ = some (Iv y.2) ∧ w.frozen? ⟨g, 1, none⟩ = false := by
  have hc := fun g hg => World.ownsRow.cells h (g := g) hg
  rcases h.2 with ⟨rfl, h0⟩ | ⟨g, cap, cur, rfl, _, hg, h1, h2, h3, h4⟩
  · simp [CE] at h0
  · have c0 := hc g rfl 0 (Iv y.1) rfl
    have c1 := hc g rfl 1 (Iv y.2) rfl
    rw [add_at] at c0 c1
    exact ⟨g, cap, rfl, h1, h2, c0, c1, by simp [World.frozen?, hg]⟩
set_option maxHeartbeats 4000000 in
theorem nil_walk (x : Int) (hx : I64 x) : Calls Try.prog 7 #[Iv x] w fun e w' => e = .returned (.bool true) ∧ Kept [] w w' := by
  go_enter Try.func7, Try.ntmps7
  go_wp2_with fail
  refine (awake9 (w := w)).mono ?_
  rintro e w1 ⟨rfl, k1⟩
  go_wp2_with fail
  refine (one_new (w0 := w) k1).mono ?_
  rintro e w2 ⟨p, rfl, T2⟩
  have HS := Hid.mk (one_add (T2.kept0 ((Kept.refl [] w2).alloc (.cells #[Iv 2, Iv x] 34))) (row1 w2 (2, x)) (by simp [E64]; exact ⟨by unfold I64; omega, hx⟩) (by simp) (by simp [newJ]))
  have e1 : addC [(2, x)] = 0 := rfl
  have e2 : addR newJ [(2, x)] = ⟨List.replicate 8 0, [⟨2, x⟩], 1⟩ := rfl
  rw [e1, e2] at HS
  clear e1 e2 T2 k1
  go_wp2_with fail
  refine HS.out.mono ?_
  rintro e w3 ⟨rfl, T3⟩
  clear HS
  have HV := Hid.mk (one_events T3)
  have hpl := T3.isJ.lt
  clear T3
  go_wp2_with fail
  refine HV.out.mono ?_
  rintro e w4 ⟨v4, rfl, ho4, hf4, T4, k4⟩
  obtain ⟨g, cap, rfl, q1, q2, c0, c1, f1⟩ := own1 (y := (2, x)) ho4
  have hgp : w3.heap.size ≤ g := hf4 g rfl
  have HT5 : Hid (∀ u, One w (w4.setCell ⟨g, 1, none⟩ u) p ⟨List.replicate 8 0, [⟨2, x⟩], 1⟩) := fun u => by
    have k : Kept [g] w4 (w4.setCell ⟨g, 1, none⟩ u) := (Kept.refl [g] w4).setCell (p := ⟨g, 1, none⟩) (.inl (by simp)) u
    refine ⟨T4.isJ.kept k (by simp; omega), T4.hp, T4.good, T4.kept.trans k ?_⟩
    have : w.heap.size ≤ w3.heap.size := Nat.le_of_lt (Nat.lt_of_le_of_lt T4.hp hpl)
    simp
    omega
  dsimp only at c0 c1
  clear HV ho4 hf4 T4 k4 hgp
  go_wp2_with fail
  have T5 := HT5.out (.int .i64 (wrap64 (x + 1)))
  generalize w4.setCell ⟨g, 1, none⟩ (.int .i64 (wrap64 (x + 1))) = w5 at *
  have HD : Hid (∀ W, Kept [] w5 W → One w W p ⟨List.replicate 8 0, [⟨2, x⟩], 1⟩) := fun W k => T5.kept0 k
  clear HT5 T5 c0 c1 f1
  refine (add12_nil _).mono ?_
  rintro e w6 ⟨rfl, rfl⟩
  go_wp2_with fail
  refine (state18_nil (w := w5)).mono ?_
  rintro e w6 ⟨rfl, k6⟩
  have heq := equal29 0 0 0 0 0 0 0 0
  simp only [BI, List.map_cons, List.map_nil]
  go_wp2_with fail
  refine (base25_nil (w := w6)).mono ?_
  rintro e w7 ⟨rfl, k7⟩
  simp only [BI, List.map_cons, List.map_nil]
  go_wp2_with fail
  refine (events20_nil (w := w7)).mono ?_
  rintro e w8 ⟨a8, c8, rfl, k8⟩
  go_wp2_with fail
  refine (version19_nil (w := w8)).mono ?_
  rintro e w9 ⟨rfl, rfl⟩
  go_wp2_with fail
  refine (fold16_nil (w := w8)).mono ?_
  rintro e w9 ⟨rfl, rfl⟩
  go_wp2_with fail
  refine (encode21_nil (w := w8)).mono ?_
  rintro e w9 ⟨rfl, rfl⟩
  have K8 := Hid.mk ((k6.trans k7 (by simp)).trans k8 (by simp))
  have HV := Hid.mk (one_events (HD.out _ K8.out))
  clear k6 k7 k8 heq
  go_wp2_with fail
  refine HV.out.mono ?_
  rintro e w10 ⟨v10, rfl, ho10, -, T10, k10⟩
  obtain ⟨g', cap', rfl, q1', q2', c0, c1, -⟩ := own1 (y := (2, x)) ho10
  dsimp only at c0 c1
  have HV2 : Hid (Calls Try.prog 18 #[.pointer (some ⟨p, 0, none⟩)] w10 fun e w' => e = .returned (.agg #[Iv 0, Iv 0, Iv x, Iv 0, Iv 0, Iv 0, Iv 0, Iv 0]) ∧ One w w' p ⟨List.replicate 8 0, [⟨2, x⟩], 1⟩ ∧ Kept [] w10 w') := one_state T10
  have hix : ∀ W : World, (Instr.index 29 (.agg #[Iv 0, Iv 0, Iv x, Iv 0, Iv 0, Iv 0, Iv 0, Iv 0]) (.int .i64 2)).run Try.prog W = .ok (Iv x) W := fun W => index29 (A := [0, 0, x, 0, 0, 0, 0, 0]) (i := 2) rfl rfl W
  clear HV ho10 T10 k10 HD
  go_wp2_with fail
  refine HV2.out.mono ?_
  rintro e w11 ⟨rfl, T11, -⟩
  have k := T11.kept
  clear T11 HV2 c0 c1
  go_wp2_with fail
  go_ret
  exact ⟨rfl, k⟩
end
end Go.Proofs.Ytbmpoboenhdnoaa
