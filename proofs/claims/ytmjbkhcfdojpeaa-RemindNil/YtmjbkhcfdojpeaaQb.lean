/-
  copyOf; cmp.Or, inOrder.
-/
import Derived.Test.YtmjbkhcfdojpeaaQa
namespace Go.Proofs.Ytmjbkhcfdojpeaa
set_option maxRecDepth 100000
open Go.RowKit Go.Shelf
set_option linter.unusedVariables false
section
variable {w : World}
set_option maxHeartbeats 1000000 in
theorem copyOf52 (r : Rm) (ha : r.ac.length ≤ 1000000) (hn : r.nm.length ≤ 1000000) : Calls Try.prog 52 #[Rv r] w fun e w' => e = .returned (Rv r) ∧ Kept [] w w' := by
  have HC1 : Hid (∀ W, Calls Try.prog 67 #[Sv r.ac] W fun e w' => e = .returned (Sv r.ac) ∧ Kept [] W w') := fun W => clone67 r.ac (by omega)
  have HC2 : Hid (∀ W, Calls Try.prog 67 #[Sv r.nm] W fun e w' => e = .returned (Sv r.nm) ∧ Kept [] W w') := fun W => clone67 r.nm (by omega)
  clear ha hn
  obtain ⟨ac, nm, due, per, kind⟩ := r
  dsimp only at HC1 HC2 ⊢
  go_enter Try.func52, Try.ntmps52
  go_wp2_with fail
  obtain ⟨W0, e0, k0, hz0, hb0, hb1⟩ := box2 w (.cells #[Sv ac, Sv nm, Iv due, Iv per, Iv kind] 27) (.cells #[.string { data := #[] }, .string { data := #[] }, Iv 0, Iv 0, Iv 0] 27)
  rw [e0]
  clear e0
  have kd : Kept [] w W0.drew := k0.drew
  have HB : Hid (∀ W, Kept [] W0.drew W → W.heap[w.heap.size]? = some (.cells #[Sv ac, Sv nm, Iv due, Iv per, Iv kind] 27 (0, 0)) ∧ W.heap[w.heap.size + 1]? = some (.cells #[.string { data := #[] }, .string { data := #[] }, Iv 0, Iv 0, Iv 0] 27 (0, 0))) := fun W k => ⟨k.keeps (w := W0.drew) hb0 (by simp), k.keeps (w := W0.drew) hb1 (by simp)⟩
  have HS : Hid (∀ W, Kept [] W0.drew W → W.cell? ⟨w.heap.size, 0, none⟩ = some (Sv ac) ∧ W.cell? ⟨w.heap.size, 1, none⟩ = some (Sv nm)) := fun W k => by
    obtain ⟨h0, h1, -⟩ := cells5 (HB.out W k).1
    exact ⟨h0, h1⟩
  have HF : Hid (∀ W, Kept [] W0.drew W → W.frozen? ⟨w.heap.size, 0, none⟩ = false ∧ W.frozen? ⟨w.heap.size, 1, none⟩ = false) := fun W k => by
    obtain ⟨h0, h1, -⟩ := free5 (HB.out W k).1
    exact ⟨h0, h1⟩
  have HP : Hid (∀ W, Kept [] W0.drew W → ∃ W5, (W.setCell ⟨w.heap.size, 0, none⟩ (Sv ac)).setCell ⟨w.heap.size, 1, none⟩ (Sv nm) = W5 ∧ Kept [w.heap.size] W W5 ∧ W5.heap[w.heap.size]? = some (.cells #[Sv ac, Sv nm, Iv due, Iv per, Iv kind] 27 (0, 0))) := fun W k => ⟨_, rfl, ((Kept.refl [w.heap.size] W).setCell (p := ⟨w.heap.size, 0, none⟩) (.inl (by simp)) _).setCell (p := ⟨w.heap.size, 1, none⟩) (.inl (by simp)) _, set5_1 (set5_0 (HB.out W k).1)⟩
  have HT : Hid (∀ W, Kept [] W0.drew W → ((W.setCell ⟨w.heap.size, 0, none⟩ (Sv ac)).setCell ⟨w.heap.size, 1, none⟩ (Sv nm)).cell? ⟨w.heap.size, 0, none⟩ = some (Sv ac) ∧ ((W.setCell ⟨w.heap.size, 0, none⟩ (Sv ac)).setCell ⟨w.heap.size, 1, none⟩ (Sv nm)).cell? ⟨w.heap.size, 1, none⟩ = some (Sv nm)) := fun W k => by
    obtain ⟨W5, e5, -, h5⟩ := HP.out W k
    rw [e5]
    obtain ⟨h0, h1, -⟩ := cells5 h5
    exact ⟨h0, h1⟩
  have HU : Hid (∀ W, Kept [] W0.drew W → (W.setCell ⟨w.heap.size, 0, none⟩ (Sv ac)).cell? ⟨w.heap.size, 0, none⟩ = some (Sv ac) ∧ (W.setCell ⟨w.heap.size, 0, none⟩ (Sv ac)).cell? ⟨w.heap.size, 1, none⟩ = some (Sv nm)) := fun W k => by
    obtain ⟨h0, h1, -⟩ := cells5 (set5_0 (x := Sv ac) (HB.out W k).1)
    exact ⟨h0, h1⟩
  have S0 := HS.out _ (Kept.refl [] _)
  have HKD := Hid.mk kd
  have HZ := Hid.mk hz0
  clear hb0 hb1 k0 hz0 kd
  go_region_held3 (fun W => W.cell? ⟨w.heap.size, 0, none⟩ = some (Sv ac) ∧ W.cell? ⟨w.heap.size, 1, none⟩ = some (Sv nm)) (first | with_reducible exact S0 | with_reducible exact S1 | with_reducible exact S2 | exact HU.out _ kk2 | exact HT.out _ kk2) (first | (go_at_call 67; refine (HC2.out _).mono ?_; rintro e w2 ⟨rfl, k2⟩; have kk2 := kk1.trans k2 (by simp); have S2 := HS.out _ kk2; obtain ⟨f0, f1⟩ := HF.out _ kk2) | (go_at_call 67; refine (HC1.out _).mono ?_; rintro e w1 ⟨rfl, k1⟩; have kk1 := k1; have S1 := HS.out _ kk1))
  obtain ⟨W5, e5, k5, h5⟩ := HP.out _ kk2
  rw [e5]
  have h6 := k5.keeps (HB.out _ kk2).2 (by simp)
  obtain ⟨c0, c1, c2, c3, c4⟩ := cells5 h5
  obtain ⟨d0, d1, d2, d3, d4⟩ := cells5 h6
  obtain ⟨f0, f1, f2, f3, f4⟩ := free5 h6
  obtain ⟨W7, e7, k7, h7, -⟩ := put5 h6 (Sv ac) (Sv nm) (Iv due) (Iv per) (Iv kind)
  have k07 : Kept [] w W7 := ((HKD.out.trans kk2 (by simp)).trans k5 (by simp)).trans k7 (fun x hx => by simp at hx; subst hx; exact .inr (by omega))
  have HR := Hid.mk k07
  clear S0 S1 S2 k5 k7 h5 h6 k07
  go_wp2_with fail
  refine bodyPost_ret (results_cell_row (p := 2) (ty := 27) rfl _ _ (w.heap.size + 1) 27 _ (0, 0) _ rfl h7 Try.underlying27 rfl (by kernel_rfl)) rfl ?_
  exact ⟨rfl, HR.out⟩
end
end Go.Proofs.Ytmjbkhcfdojpeaa
