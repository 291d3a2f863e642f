/-
  The document's journal: drop.
-/
import Derived.Test.YtbmpoboenhdnoaaRq
namespace Go.Proofs.Ytbmpoboenhdnoaa
set_option maxRecDepth 100000
open Go.RowKit
set_option linter.unusedVariables false
section
variable {w : World} {f : Nat} {v : Value}
set_option maxHeartbeats 2000000 in
theorem drop29 {b : List Int} {y : Ev} {t : List Ev} {ver : Nat} (hF : IsF w f v ⟨b, y :: t, ver⟩) (hy : y.r ≤ 7) (hl : t.length ≤ 900) : Calls Try.prog 29 #[.pointer (some ⟨f, 0, none⟩)] w fun e w' => e = .returned (.tuple #[]) ∧ (∃ u, IsF w' f u ⟨doE b y, t, ver⟩ ∧ Fresh w u) ∧ Kept [f] w w' := by
  obtain ⟨a, c, rfl, hc1, hc2⟩ := hF.form
  have hn : (y :: t).length = t.length + 1 := rfl
  dsimp only at hc1 hF ⊢
  generalize (y :: t).length = n at *
  have HN := Hid.mk hn
  have hrow := hF.row
  obtain ⟨bb, o, rfl, d0, d1⟩ := rowE_at hrow (j := 0) (y := ofE y) rfl
  rw [Nat.zero_mul, Nat.add_zero] at d0 d1
  obtain ⟨x0, hx0⟩ : ∃ x, b[y.r]? = some x := ⟨_, List.getElem?_eq_getElem (by have := hF.b8; dsimp only at this; omega)⟩
  have c0 := hF.cellA hx0
  have f0 := hF.free y.r
  have c0' : w.drew.cell? ⟨f, y.r, none⟩ = some (Iv x0) := c0
  have f0' : w.drew.frozen? ⟨f, y.r, none⟩ = false := f0
  have S0 : w.drew.cell? ⟨f, 8, none⟩ = some (.slice (some ⟨bb, o, none⟩) n c) ∧ w.drew.cell? ⟨bb, o, none⟩ = some (Iv (y.r : Int)) ∧ w.drew.cell? ⟨bb, o + 1, none⟩ = some (Iv y.v) := ⟨hF.ev, d0, d1⟩
  have hF2 := hF.setA (i := y.r) (by omega) y.v
  have k2 : Kept [f] w (w.setCell ⟨f, y.r, none⟩ (Iv y.v)) := (Kept.refl [f] w).setCell (p := ⟨f, y.r, none⟩) (.inl (by simp)) _
  obtain ⟨bb', o', ebb, d2, d3⟩ := rowE_at hF2.row (j := 0) (y := ofE y) rfl
  injection ebb with ebb
  injection ebb with e1 e2
  subst e1 e2
  rw [Nat.zero_mul, Nat.add_zero] at d2 d3
  have HQ : Hid ((w.setCell ⟨f, y.r, none⟩ (Iv y.v)).drew.cell? ⟨f, 8, none⟩ = some (.slice (some ⟨bb, o, none⟩) n c) ∧ (w.setCell ⟨f, y.r, none⟩ (Iv y.v)).drew.cell? ⟨bb, o, none⟩ = some (Iv (y.r : Int)) ∧ (w.setCell ⟨f, y.r, none⟩ (Iv y.v)).drew.cell? ⟨bb, o + 1, none⟩ = some (Iv y.v)) := ⟨hF2.ev, d2, d3⟩
  have H2 : Hid (IsF (w.setCell ⟨f, y.r, none⟩ (Iv y.v)).drew f (.slice (some ⟨bb, o, none⟩) n c) ⟨doE b y, y :: t, ver⟩ ∧ Kept [f] w (w.setCell ⟨f, y.r, none⟩ (Iv y.v)).drew) := ⟨hF2.kept0 (Kept.refl [] _).drew, k2.drew⟩
  have r0 : (0 : Int) ≤ (y.r : Int) := by omega
  have r1 : (y.r : Int) < 8 := by omega
  have g0 : (0 : Int) < (n : Int) := by omega
  have g1 : (1 : Int) ≤ (n : Int) := by omega
  have g3 : 0 < n := by omega
  have g4 : 1 ≤ n := by omega
  have g2 : (n : Int) ≤ (c : Int) := by omega
  clear hF hF2 k2 d0 d1 d2 d3 hrow hx0 hn
  go_enter Try.func29, Try.ntmps29
  go_wp2_with fail
  go_region_held3 (fun V => V.cell? ⟨f, 8, none⟩ = some (.slice (some ⟨bb, o, none⟩) n c) ∧ V.cell? ⟨bb, o, none⟩ = some (Iv (y.r : Int)) ∧ V.cell? ⟨bb, o + 1, none⟩ = some (Iv y.v)) (first | with_reducible exact S0 | exact HQ.out) (fail)
  generalize (w.setCell ⟨f, y.r, none⟩ (Iv y.v)).drew = W2 at *
  obtain ⟨h2, k2⟩ := H2.out
  obtain ⟨a1, c1, W1, hrun, k1, e8, fz, hR, hf⟩ := drop_tail h2 HN.out (by have := HN.out; omega) (by omega)
  have hcut := fun W => run_cutL rt30 W (some ⟨bb, o, none⟩) n c 1 (by omega)
  have h8 := h2.ev
  have h8' : (W2.alloc (.cells #[] 47)).cell? ⟨f, 8, none⟩ = some (.slice (some ⟨bb, o, none⟩) n c) := ((Kept.refl [] W2).alloc _).cell_eq h8
  have HR : Hid ((∃ u, IsF (W1.setCell ⟨f, 8, none⟩ (.slice a1 (n - 1) c1)) f u ⟨doE b y, t, ver⟩ ∧ Fresh w u) ∧ Kept [f] w (W1.setCell ⟨f, 8, none⟩ (.slice a1 (n - 1) c1))) := ⟨⟨_, hR, fun g hg => by have := hf g hg; have := k2.size; omega⟩, (k2.trans k1 (by simp)).setCell (p := ⟨f, 8, none⟩) (.inl (by simp)) _⟩
  clear H2 h2 k2 k1 hR hf S0 HQ c0 f0 c0' f0'
  have hcut2 : ∀ W : World, (Instr.slice 30 (.slice (some ⟨bb, o, none⟩) n c) (some (.int .i64 1)) none none).run Try.prog W = .ok (.slice (cutA (some ⟨bb, o, none⟩) c 1 2) (n - 1) (c - 1)) W := hcut
  clear hcut
  go_wp2_with (at_builtin; refine wpList_append_run 30 30 (.tmp 21) (.tmp 26) rfl (by rfl) _ _ rfl rfl _ _ hrun ?_)
  go_end0
  exact ⟨rfl, HR.out⟩
end
end Go.Proofs.Ytbmpoboenhdnoaa
