/-
  A program as it is built; what an actor tells.
-/
import Derived.Test.YtngnenbidpojeaaDoorUw
namespace Go.Proofs.YtngnenbidpojeaaDoor
open Go.RowKit
set_option maxRecDepth 100000
set_option linter.unusedVariables false
theorem rtI : RowT 46 45 2 16 (.agg #[.int .i64 0, .int .i64 0]) := ⟨Tryd.underlying46, by kernel_rfl, rfl, by omega, by omega⟩
section
variable {T e : TypeId} {w wr w2 : World} {g : Nat} {v u : Value} {p : Pg}
/-- Some instructions more. -/
theorem PB.addCodes {T' : TypeId} {b : Nat} {z : Value} (R : RowT T' e 2 b z) (he : e ≠ 9) (hTe : T ≠ e) (hT : T ≠ 9) (h : PB T e w wr g v u p) (C : List In) (hC : C.length ≤ 1000) (hl : p.code.length ≤ 900000) (ty : TypeId) (hrd : ∀ W, W.heap[wr.heap.size]? = some (.cells (rowI C).flatten.toArray 45 (0, 0)) → ReadsR 2 W (.slice (some ⟨wr.heap.size, 0, none⟩) C.length C.length) (rowI C)) :
    ∃ ad c w2, (Builtin.append_ #[T', T'] ty #[u, .slice (some ⟨wr.heap.size, 0, none⟩) C.length C.length]).run Tryd.prog (wr.alloc (.cells (rowI C).flatten.toArray 45)) = .ok (.slice ad (p.code.length + C.length) c) w2 ∧ w2.cell? ⟨g, 1, none⟩ = some u ∧ w2.frozen? ⟨g, 1, none⟩ = false ∧ PB T e w (w2.setCell ⟨g, 1, none⟩ (.slice ad (p.code.length + C.length) c)) g v (.slice ad (p.code.length + C.length) c) ⟨p.names, p.code ++ C⟩ := by
  have k0 := (Kept.refl [] wr).alloc (.cells (rowI C).flatten.toArray 45)
  have h0 := h.keep k0
  obtain ⟨ad, c, w2, hrun, hO, hg, hN⟩ := run_appendR R (wr.alloc (.cells (rowI C).flatten.toArray 45)) ty u _ h0.code.own (.slice (some ⟨wr.heap.size, 0, none⟩) C.length C.length) (rowI C) (wideI C) (hrd _ (heap_alloc_new wr _)) (by simp [rowI]; omega)
  have hlC : (rowI C).length = C.length := by simp [rowI]
  have hlp : (rowI p.code).length = p.code.length := by simp [rowI]
  rw [hlC, hlp] at hrun hO hN
  have k2 : Kept u.ownBlock.toList (wr.alloc (.cells (rowI C).flatten.toArray 45)) w2 := ((Kept.refl [] _).mono (by simp)).grown hg (fun x hx => .inl (by rw [Option.mem_toList]; exact hx))
  have gv : u.ownBlock ≠ some g := ownsR_ne h0.code.own h0.box hTe
  have hb2 : w2.heap[g]? = some (.cells #[v, u] T (0, 0)) := k2.keeps h0.box (by simpa using gv)
  have hc2 : OwnsR 9 1 w2 v (rowN p.names) := h0.names.own.kept k2 (fun g' hg' hm => own_apart h0.names.own h0.code.own (Ne.symm he) hg' (by simpa using hm))
  have e1 : rowI (p.code ++ C) = rowI p.code ++ rowI C := by simp [rowI]
  have ks : Kept [g] w2 (w2.setCell ⟨g, 1, none⟩ (.slice ad (p.code.length + C.length) c)) := (Kept.refl [g] w2).setCell (.inl (by simp)) _
  have gn : ∀ g', (Value.slice ad (p.code.length + C.length) c).ownBlock = some g' → g' ∉ [g] := fun g' hg' hm => by
    simp at hm
    subst hm
    exact ownsR_ne hO hb2 hTe hg'
  have gu : ∀ g', v.ownBlock = some g' → g' ∉ [g] := fun g' hg' hm => by
    simp at hm
    subst hm
    exact ownsR_ne hc2 hb2 hT hg'
  have kw : Kept [] w (w2.setCell ⟨g, 1, none⟩ (.slice ad (p.code.length + C.length) c)) := (h0.kept.trans k2 (fun x hx => .inr (h0.code.new x (by simpa using hx)))).trans ks (fun x hx => .inr (by simp at hx; subst hx; exact h0.hg))
  refine ⟨ad, c, w2, hrun, by simp [World.cell?, hb2], by simp [World.frozen?, hb2], ⟨set_at hb2, ⟨hc2.kept ks gu, h0.names.new, kw⟩, ⟨?_, fun g' hg' => ?_, kw⟩, h0.hg⟩⟩
  · rw [e1]; exact hO.kept ks gn
  · rcases hN g' hg' with h3 | h3
    · exact h0.code.new g' h3
    · exact Nat.le_trans h0.kept.size h3
/-- It is read behind a write to an elder block. -/
theorem PB.aside (h : PB T e w wr g v u p) {b : Nat} (k : Kept [b] wr w2) (hb : b < w.heap.size) : w2.heap[g]? = some (.cells #[v, u] T (0, 0)) ∧ IsP_N w2 v u p := by
  have := h.hg
  refine ⟨k.keeps h.box (by simp; omega), ⟨(h.names.own.reads (wideN _)).kept k (fun g' hg' hm => ?_), (h.code.own.reads (wideI _)).kept k (fun g' hg' hm => ?_)⟩⟩
  · have := h.names.new g' hg'; simp at hm; omega
  · have := h.code.new g' hg'; simp at hm; omega
end
section
variable {w0 w w' : World} {p pj pi po : Nat} {a : Ac}
theorem AP.cellsA (h : AP w0 w p pj pi po a) : w.cell? ⟨p, 1, none⟩ = some (Ptr pi) ∧ w.cell? ⟨p, 2, none⟩ = some (Ptr po) := by
  obtain ⟨v, h1, -, -⟩ := h
  exact ⟨h1.cells.2.1, h1.cells.2.2.1⟩
theorem AP.alls (h : AP w0 w p pj pi po a) : Calls Tryd.prog 12 #[Ptr po] w fun e w' => (∃ ad c, e = .returned (.slice ad a.out.L.length c)) ∧ Kept [] w w' := by
  obtain ⟨v, h1, -, hg⟩ := h
  obtain ⟨ys, hO, hy⟩ := h1.o
  refine (all21 hO (hg.out.fit hy)).mono ?_
  rintro e w' ⟨v', rfl, qs', hq, hY, k⟩
  obtain ⟨ad, c, rfl, -, -⟩ := hY.own.form
  have hl : (CY qs').length = a.out.L.length := by rw [CY_length, ← hy, ← hq, List.length_map]
  exact ⟨⟨ad, c, by rw [hl]⟩, k⟩
theorem AP.lens (h : AP w0 w p pj pi po a) : Calls Tryd.prog 8 #[Ptr pi] w fun e w' => e = .returned (.int .i64 (a.inb.length : Int)) ∧ w = w' := by
  obtain ⟨v, h1, -, hg⟩ := h
  obtain ⟨qs, hB, hq⟩ := h1.i
  have := len21 hB
  rwa [← List.length_map (f := fun q : Lq => q.x), hq] at this
theorem AP.sers (h : AP w0 w p pj pi po a) (k : List UInt8) : Calls Tryd.prog 13 #[Ptr po, Sv k] w fun e w' => e = .returned (Uv (ser a.out.K k)) ∧ Kept [] w w' := by
  obtain ⟨v, h1, -, hg⟩ := h
  obtain ⟨ys, hO, hy⟩ := h1.o
  exact serial22 hO hg.out.rise k
end
end Go.Proofs.YtngnenbidpojeaaDoor
