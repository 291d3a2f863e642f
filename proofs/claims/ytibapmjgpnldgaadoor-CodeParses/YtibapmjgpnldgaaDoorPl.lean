/-
  A program that is built beside a row of lines that is read.
-/
import Derived.Test.YtibapmjgpnldgaaDoorRw
namespace Go.Proofs.YtibapmjgpnldgaaDoor
set_option maxRecDepth 100000
open Go.RowKit
set_option linter.unusedVariables false
/-- The document's program at g, its rows above B; the row x of the lines L below B. -/
structure PL (B : Nat) (w0 w : World) (g : Nat) (v u : Value) (p : Pg) (x : Value) (L : List (List UInt8)) : Prop where
  box : w.heap[g]? = some (.cells #[v, u] 25 (0, 0))
  names : OwnsR 9 1 w v (rowN p.names)
  nN : ∀ g', v.ownBlock = some g' → B ≤ g'
  code : OwnsR 64 2 w u (rowI p.code)
  nC : ∀ g', u.ownBlock = some g' → B ≤ g'
  rd : ReadsR 1 w x (rowN L)
  hx : ∀ g', x.ownBlock = some g' → g' < B ∧ g' ≠ g
  hB : w0.heap.size ≤ B
  hw : B ≤ w.heap.size
  hg : w0.heap.size ≤ g
  k : Kept [] w0 w
section
variable {B : Nat} {w0 w w' : World} {g : Nat} {v u : Value} {p : Pg} {x : Value} {L : List (List UInt8)}
theorem PL.kept0 (h : PL B w0 w g v u p x L) (k : Kept [] w w') : PL B w0 w' g v u p x L :=
  ⟨k.keeps h.box (by simp), h.names.kept k (by simp), h.nN, h.code.kept k (by simp), h.nC, h.rd.kept k (by simp), h.hx, h.hB, Nat.le_trans h.hw k.size, h.hg, h.k.trans k (by simp)⟩
theorem PL.c0 (h : PL B w0 w g v u p x L) : w.cell? ⟨g, 0, none⟩ = some v := by simp [World.cell?, h.box]
theorem PL.c1 (h : PL B w0 w g v u p x L) : w.cell? ⟨g, 1, none⟩ = some u := by simp [World.cell?, h.box]
theorem PL.isP (h : PL B w0 w g v u p x L) : IsP w v u p := ⟨h.names.reads (wideN _), h.code.reads (wideI _)⟩
theorem PL.forms (h : PL B w0 w g v u p x L) : ∃ a c b d, v = .slice a p.names.length c ∧ u = .slice b p.code.length d := by
  obtain ⟨a, c, b, d, h1, h2, -⟩ := h.isP.form
  exact ⟨a, c, b, d, h1, h2⟩
theorem PL.rdk (h : PL B w0 w g v u p x L) {S : List Nat} (k : Kept S w w') (hS : ∀ y ∈ S, y = g ∨ B ≤ y) : ReadsR 1 w' x (rowN L) :=
  h.rd.kept k (fun g' hg hm => by
    have a := h.hx g' hg
    rcases hS g' hm with e | e
    · exact a.2 e
    · omega)
theorem PL.addName (h : PL B w0 w g v u p x L) (hl : p.names.length ≤ 900000) (s : List UInt8) (t : TypeId) (fr : Nat × Nat) (ty : TypeId) :
    ∃ ad c w2, (Builtin.append_ #[22, 22] ty #[v, .slice (some ⟨w.heap.size, 0, none⟩) 1 1]).run Tryd.prog (w.alloc (.cells [Value.string ⟨s.toArray⟩].toArray t fr)) = .ok (.slice ad (p.names.length + 1) c) w2 ∧ w2.cell? ⟨g, 0, none⟩ = some v ∧ w2.frozen? ⟨g, 0, none⟩ = false ∧ PL B w0 (w2.setCell ⟨g, 0, none⟩ (.slice ad (p.names.length + 1) c)) g (.slice ad (p.names.length + 1) c) u ⟨p.names ++ [s], p.code⟩ x L := by
  have hT : (25 : TypeId) ≠ 9 := by decide
  have hTe : (25 : TypeId) ≠ 64 := by decide
  have he : (64 : TypeId) ≠ 9 := by decide
  have hl' : (rowN p.names).length ≤ 900000 := by rw [rowN_length]; exact hl
  obtain ⟨ad, c, w2, hrun, hO, k2, hN⟩ := append_rowR rt22 h.names [.string ⟨s.toArray⟩] rfl (by simp [Value.oneCell']) hl' t fr ty
  rw [rowN_length] at hrun hO hN
  have gv : v.ownBlock ≠ some g := ownsR_ne h.names h.box hT
  have hb2 : w2.heap[g]? = some (.cells #[v, u] 25 (0, 0)) := k2.keeps h.box (by simpa using gv)
  have hc2 : OwnsR 64 2 w2 u (rowI p.code) := h.code.kept k2 (fun g' hg' hm => own_apart h.code h.names he hg' (by simpa using hm))
  have e1 : rowN (p.names ++ [s]) = rowN p.names ++ [[.string ⟨s.toArray⟩]] := by simp [rowN]
  have ks : Kept [g] w2 (w2.setCell ⟨g, 0, none⟩ (.slice ad (p.names.length + 1) c)) := (Kept.refl [g] w2).setCell (.inl (by simp)) _
  have gn : ∀ g', (Value.slice ad (p.names.length + 1) c).ownBlock = some g' → g' ∉ [g] := fun g' hg' hm => by
    simp at hm
    subst hm
    exact ownsR_ne hO hb2 hT hg'
  have gu : ∀ g', u.ownBlock = some g' → g' ∉ [g] := fun g' hg' hm => by
    simp at hm
    subst hm
    exact ownsR_ne hc2 hb2 hTe hg'
  have kt : Kept (g :: v.ownBlock.toList) w (w2.setCell ⟨g, 0, none⟩ (.slice ad (p.names.length + 1) c)) := (k2.mono (fun x hx => .inl (by simp at hx ⊢; exact .inr hx))).trans ks (fun x hx => .inl (by simp at hx; subst hx; simp))
  have hS : ∀ y ∈ g :: v.ownBlock.toList, y = g ∨ B ≤ y := fun y hy => by
    simp only [List.mem_cons, Option.mem_toList] at hy
    rcases hy with rfl | hy
    · exact .inl rfl
    · exact .inr (h.nN y hy)
  have kw : Kept [] w0 (w2.setCell ⟨g, 0, none⟩ (.slice ad (p.names.length + 1) c)) := h.k.trans kt (fun y hy => .inr (by
    have a := hS y hy
    have b := h.hB
    have c := h.hg
    omega))
  refine ⟨ad, c, w2, hrun, by simp [World.cell?, hb2], by simp [World.frozen?, hb2], ⟨set_at hb2, ?_, fun g' hg' => ?_, hc2.kept ks gu, h.nC, h.rdk kt hS, h.hx, h.hB, Nat.le_trans h.hw kt.size, h.hg, kw⟩⟩
  · rw [e1]; exact hO.kept ks gn
  · rcases hN g' hg' with h3 | h3
    · exact h.nN g' h3
    · exact Nat.le_trans h.hw h3
theorem PL.addCode (h : PL B w0 w g v u p x L) (hl : p.code.length ≤ 900000) (xi : In) (t : TypeId) (fr : Nat × Nat) (ty : TypeId) :
    ∃ ad c w2, (Builtin.append_ #[23, 23] ty #[u, .slice (some ⟨w.heap.size, 0, none⟩) 1 1]).run Tryd.prog (w.alloc (.cells [Value.int .i64 xi.op, .int .i64 xi.arg].toArray t fr)) = .ok (.slice ad (p.code.length + 1) c) w2 ∧ w2.cell? ⟨g, 1, none⟩ = some u ∧ w2.frozen? ⟨g, 1, none⟩ = false ∧ PL B w0 (w2.setCell ⟨g, 1, none⟩ (.slice ad (p.code.length + 1) c)) g v (.slice ad (p.code.length + 1) c) ⟨p.names, p.code ++ [xi]⟩ x L := by
  have hT : (25 : TypeId) ≠ 9 := by decide
  have hTe : (25 : TypeId) ≠ 64 := by decide
  have he : (64 : TypeId) ≠ 9 := by decide
  have hl' : (rowI p.code).length ≤ 900000 := by rw [rowI_length]; exact hl
  obtain ⟨ad, c, w2, hrun, hO, k2, hN⟩ := append_rowR rt23 h.code [.int .i64 xi.op, .int .i64 xi.arg] rfl (by simp [Value.oneCell']) hl' t fr ty
  rw [rowI_length] at hrun hO hN
  have gv : u.ownBlock ≠ some g := ownsR_ne h.code h.box hTe
  have hb2 : w2.heap[g]? = some (.cells #[v, u] 25 (0, 0)) := k2.keeps h.box (by simpa using gv)
  have hc2 : OwnsR 9 1 w2 v (rowN p.names) := h.names.kept k2 (fun g' hg' hm => own_apart h.names h.code (Ne.symm he) hg' (by simpa using hm))
  have e1 : rowI (p.code ++ [xi]) = rowI p.code ++ [[.int .i64 xi.op, .int .i64 xi.arg]] := by simp [rowI]
  have ks : Kept [g] w2 (w2.setCell ⟨g, 1, none⟩ (.slice ad (p.code.length + 1) c)) := (Kept.refl [g] w2).setCell (.inl (by simp)) _
  have gn : ∀ g', (Value.slice ad (p.code.length + 1) c).ownBlock = some g' → g' ∉ [g] := fun g' hg' hm => by
    simp at hm
    subst hm
    exact ownsR_ne hO hb2 hTe hg'
  have gu : ∀ g', v.ownBlock = some g' → g' ∉ [g] := fun g' hg' hm => by
    simp at hm
    subst hm
    exact ownsR_ne hc2 hb2 hT hg'
  have kt : Kept (g :: u.ownBlock.toList) w (w2.setCell ⟨g, 1, none⟩ (.slice ad (p.code.length + 1) c)) := (k2.mono (fun x hx => .inl (by simp at hx ⊢; exact .inr hx))).trans ks (fun x hx => .inl (by simp at hx; subst hx; simp))
  have hS : ∀ y ∈ g :: u.ownBlock.toList, y = g ∨ B ≤ y := fun y hy => by
    simp only [List.mem_cons, Option.mem_toList] at hy
    rcases hy with rfl | hy
    · exact .inl rfl
    · exact .inr (h.nC y hy)
  have kw : Kept [] w0 (w2.setCell ⟨g, 1, none⟩ (.slice ad (p.code.length + 1) c)) := h.k.trans kt (fun y hy => .inr (by
    have a := hS y hy
    have b := h.hB
    have c := h.hg
    omega))
  refine ⟨ad, c, w2, hrun, by simp [World.cell?, hb2], by simp [World.frozen?, hb2], ⟨set_at hb2, hc2.kept ks gu, h.nN, ?_, fun g' hg' => ?_, h.rdk kt hS, h.hx, h.hB, Nat.le_trans h.hw kt.size, h.hg, kw⟩⟩
  · rw [e1]; exact hO.kept ks gn
  · rcases hN g' hg' with h3 | h3
    · exact h.nC g' h3
    · exact Nat.le_trans h.hw h3
end
end Go.Proofs.YtibapmjgpnldgaaDoor
