/-
  The document's journal: drop, State.
-/
import Derived.Test.YtbmpoboenhdnoaaOn
import Derived.Deep.RegionLaw
namespace Go.Proofs.Ytbmpoboenhdnoaa
set_option maxRecDepth 100000
open Go.RowKit
set_option linter.unusedVariables false
/-- The cells of the document's journal. -/
def cellsF (A : List Int) (v : Value) (n : Nat) : List Value := BI A ++ [v, Uv n]
/-- The document's journal at block f: its events lie in the row v. -/
structure IsF (w : World) (f : Nat) (v : Value) (j : Jn) : Prop where
  box : w.heap[f]? = some (.cells (cellsF j.base v j.ver).toArray 32 (0, 0))
  own : OwnsR 47 2 w v (CE (j.ev.map ofE))
  b8 : j.base.length = 8
section
variable {w w' : World} {f : Nat} {v : Value} {j : Jn}
theorem IsF.lt (h : IsF w f v j) : f < w.heap.size := lt_of_block h.box
theorem IsF.kept {S : List Nat} (h : IsF w f v j) (k : Kept S w w') (hf : f ∉ S) (hv : ∀ g, v.ownBlock = some g → g ∉ S) : IsF w' f v j := ⟨k.keeps h.box hf, h.own.kept k hv, h.b8⟩
theorem IsF.kept0 (h : IsF w f v j) (k : Kept [] w w') : IsF w' f v j := h.kept k (by simp) (by simp)
theorem IsF.free (h : IsF w f v j) (i : Nat) : w.frozen? ⟨f, i, none⟩ = false := by simp [World.frozen?, h.box]
theorem IsF.cellA (h : IsF w f v j) {i : Nat} {x : Int} (hi : j.base[i]? = some x) : w.cell? ⟨f, i, none⟩ = some (Iv x) := cell_list h.box (by
  rw [cellsF, List.getElem?_append_left (by rw [BI_length]; exact get_lt hi)]
  exact BI_get hi)
theorem IsF.ev (h : IsF w f v j) : w.cell? ⟨f, 8, none⟩ = some v := cell_list h.box (by
  rw [cellsF, List.getElem?_append_right (by rw [BI_length, h.b8]; exact Nat.le_refl _), BI_length, h.b8]
  rfl)
theorem IsF.ver (h : IsF w f v j) : w.cell? ⟨f, 9, none⟩ = some (Uv j.ver) := cell_list h.box (by
  rw [cellsF, List.getElem?_append_right (by rw [BI_length, h.b8]; omega), BI_length, h.b8]
  rfl)
theorem IsF.row (h : IsF w f v j) : ReadsR 2 w v (CE (j.ev.map ofE)) := h.own.reads (CE_wide _)
theorem IsF.form (h : IsF w f v j) : ∃ a c, v = .slice a j.ev.length c ∧ j.ev.length ≤ c ∧ c ≤ 9223372036854775807 := by
  have := rowE_form h.row
  rwa [List.length_map] at this
/-- Its row is another's block. -/
theorem IsF.apart (h : IsF w f v j) : v.ownBlock ≠ some f := ownsR_ne h.own h.box (by decide)
theorem IsF.rangeA (h : IsF w f v j) : w.rangeAt f 0 (BI j.base) := fun i x hx => by
  rw [BI, List.getElem?_map, Option.map_eq_some_iff] at hx
  obtain ⟨y, hy, rfl⟩ := hx
  rw [Nat.zero_add]
  exact h.cellA hy
/-- A register is set. -/
theorem IsF.setA (h : IsF w f v j) {i : Nat} (hi : i < 8) (x : Int) : IsF (w.setCell ⟨f, i, none⟩ (Iv x)) f v ⟨j.base.set i x, j.ev, j.ver⟩ := by
  have k := (Kept.refl [f] w).setCell (p := ⟨f, i, none⟩) (.inl (by simp)) (Iv x)
  refine ⟨?_, h.own.kept k (fun g hg hm => by simp at hm; subst hm; exact h.apart hg), by dsimp only; rw [List.length_set]; exact h.b8⟩
  rw [set_list h.box, cellsF, List.set_append_left _ _ (by rw [BI_length, h.b8]; exact hi), BI_set]
  rfl
/-- Another row of events is laid in. -/
theorem IsF.put (h : IsF w f v j) {u : Value} {ev : List Ev} (hu : OwnsR 47 2 w u (CE (ev.map ofE))) : IsF (w.setCell ⟨f, 8, none⟩ u) f u ⟨j.base, ev, j.ver⟩ := by
  have k := (Kept.refl [f] w).setCell (p := ⟨f, 8, none⟩) (.inl (by simp)) u
  refine ⟨?_, hu.kept k (fun g hg hm => by simp at hm; subst hm; exact ownsR_ne hu h.box (by decide) hg), h.b8⟩
  rw [set_list h.box, cellsF, List.set_append_right _ _ (by rw [BI_length, h.b8]; exact Nat.le_refl _), BI_length, h.b8]
  rfl
/-- The version is set. -/
theorem IsF.setv (h : IsF w f v j) (n : Nat) : IsF (w.setCell ⟨f, 9, none⟩ (Uv n)) f v ⟨j.base, j.ev, n⟩ := by
  have k := (Kept.refl [f] w).setCell (p := ⟨f, 9, none⟩) (.inl (by simp)) (Uv n)
  refine ⟨?_, h.own.kept k (fun g hg hm => by simp at hm; subst hm; exact h.apart hg), h.b8⟩
  rw [set_list h.box, cellsF, List.set_append_right _ _ (by rw [BI_length, h.b8]; omega), BI_length, h.b8]
  rfl
theorem IsF.new (w : World) : IsF (w.alloc (.cells (cellsF z8 (.slice none 0 0) 0).toArray 32)) w.heap.size (.slice none 0 0) newJ := ⟨heap_alloc_new w _, OwnsR.nil _ _ _, rfl⟩
end
theorem run_cutL {T e : TypeId} {k b : Nat} {z : Value} (R : RowT T e k b z) (W : World) (a : Option Addr) (n c i : Nat) (hi : i ≤ n) : (Instr.slice T (.slice a n c) (some (.int .i64 (i : Int))) none none).run Try.prog W = .ok (.slice (cutA a c i k) (n - i) (c - i)) W := by
  rw [run_slice_l W T a n c (by rw [R.elem]; exact R.under) .i64 i (by omega) (by omega), R.elem, R.size]
  simp [Result.andThen, sliced, cutA]
section
variable {w : World} {f : Nat} {v : Value}
/-- What region 1 of drop does. -/
theorem drop_tail {W : World} {a : Option Addr} {n c : Nat} {b : List Int} {y : Ev} {t : List Ev} {ver : Nat} (hF : IsF W f (.slice a n c) ⟨b, y :: t, ver⟩) (hn : n = t.length + 1) (hl : n ≤ 1000) (hc : n ≤ c) :
    ∃ a1 c1 W1, (Builtin.append_ #[30, 30] 30 #[.slice (some ⟨W.heap.size, 0, none⟩) 0 0, .slice (cutA a c 1 2) (n - 1) (c - 1)]).run Try.prog (W.alloc (.cells #[] 47)) = .ok (.slice a1 (n - 1) c1) W1 ∧ Kept [] W W1 ∧ W1.cell? ⟨f, 8, none⟩ = some (.slice a n c) ∧ W1.frozen? ⟨f, 8, none⟩ = false ∧
      IsF (W1.setCell ⟨f, 8, none⟩ (.slice a1 (n - 1) c1)) f (.slice a1 (n - 1) c1) ⟨b, t, ver⟩ ∧ Fresh W (.slice a1 (n - 1) c1) := by
  have k0 := (Kept.refl [] W).alloc (.cells #[] 47)
  have ho : OwnsR 47 2 (W.alloc (.cells #[] 47)) (.slice (some ⟨W.heap.size, 0, none⟩) 0 0) [] := ownsR_block (rs := []) (heap_alloc_new W _) (by intro r hr; cases hr) rfl (by decide)
  have hr := ReadsR.cut (k := 2) (i := 1) (j := n) (m := c) (by rw [CE_length, List.length_map]; simpa using hn) (ReadsR.kept hF.row k0 (by simp)) (by omega) (Nat.le_refl _) hc (Nat.le_refl _)
  have hrows : ((CE ((y :: t).map ofE)).take n).drop 1 = CE (t.map ofE) := by
    rw [List.take_of_length_le (by rw [CE_length, List.length_map, hn]; simp)]
    simp [CE]
  rw [hrows] at hr
  obtain ⟨a1, c1, W1, hrun, hO, hg, hN⟩ := run_appendR rt30 (W.alloc (.cells #[] 47)) 30 _ [] ho _ (CE (t.map ofE)) (CE_wide _) hr (by rw [CE_length, List.length_map]; simp; omega)
  have hlt : (CE (t.map ofE)).length = n - 1 := by rw [CE_length, List.length_map]; omega
  simp only [List.nil_append, List.length_nil, Nat.zero_add, hlt] at hrun hO hN
  have k1 : Kept [] W W1 := k0.grown hg (fun x hx => .inr (by simp [Value.ownBlock] at hx; omega))
  have hF1 := hF.kept0 k1
  refine ⟨a1, c1, W1, hrun, k1, hF1.ev, hF1.free _, hF1.put (ev := t) hO, fun g hg => ?_⟩
  rcases hN g hg with h | h
  · simp [Value.ownBlock] at h; omega
  · have := k0.size; omega
end
end Go.Proofs.Ytbmpoboenhdnoaa
