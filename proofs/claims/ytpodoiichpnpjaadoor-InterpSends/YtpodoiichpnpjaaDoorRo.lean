/-
  Rows that grow by append, and a program that is built of two of them.
-/
import Derived.Test.YtpodoiichpnpjaaDoorKw
namespace Go.Proofs.YtpodoiichpnpjaaDoor
open Go.RowKit
set_option maxRecDepth 100000
set_option linter.unusedVariables false
theorem rt22 : RowT 22 9 1 16 (.string ⟨#[]⟩) := ⟨Tryd.underlying22, by kernel_rfl, rfl, by omega, by omega⟩
theorem rt31 : RowT 41 60 2 16 (.agg #[.int .i64 0, .int .i64 0]) := ⟨Tryd.underlying41, by kernel_rfl, rfl, by omega, by omega⟩
theorem rt23 : RowT 23 75 2 16 (.agg #[.int .i64 0, .int .i64 0]) := ⟨Tryd.underlying23, by kernel_rfl, rfl, by omega, by omega⟩
theorem rt45 : RowT 111 5 1 1 (.int .u8 0) := ⟨Tryd.underlying111, by kernel_rfl, rfl, by omega, by omega⟩
/-- A row that grows, new since w; nothing elder was turned. -/
structure Out (e : TypeId) (k : Nat) (w wr : World) (u : Value) (rs : List (List Value)) : Prop where
  own : OwnsR e k wr u rs
  new : ∀ g, u.ownBlock = some g → w.heap.size ≤ g
  kept : Kept [] w wr
section
variable {T e : TypeId} {k b : Nat} {z : Value} {w wr w2 : World} {u : Value} {rs : List (List Value)}
theorem Out.nil (h : Kept [] w wr) : Out e k w wr (.slice none 0 0) [] := ⟨OwnsR.nil e k wr, fun g hg => by simp [Value.ownBlock] at hg, h⟩
theorem Out.keep (h : Out e k w wr u rs) (k2 : Kept [] wr w2) : Out e k w w2 u rs := ⟨h.own.kept k2 (by simp), h.new, h.kept.then k2⟩
theorem Out.form (h : Out e k w wr u rs) : ∃ a c, u = .slice a rs.length c ∧ rs.length ≤ c ∧ c ≤ 9223372036854775807 := h.own.form
theorem Out.more (R : RowT T e k b z) (h : Out e k w wr u rs) (cs : List Value) (hc : cs.length = k) (h1 : ∀ x ∈ cs, x.oneCell' = true) (hl : rs.length ≤ 900000) (t : TypeId) (fr : Nat × Nat) (ty : TypeId) :
    ∃ ad c w2, (Builtin.append_ #[T, T] ty #[u, .slice (some ⟨wr.heap.size, 0, none⟩) 1 1]).run Tryd.prog (wr.alloc (.cells cs.toArray t fr)) = .ok (.slice ad (rs.length + 1) c) w2 ∧ Out e k w w2 (.slice ad (rs.length + 1) c) (rs ++ [cs]) := by
  obtain ⟨ad, c, w2, hrun, hO, k2, hN⟩ := append_rowR R h.own cs hc h1 hl t fr ty
  refine ⟨ad, c, w2, hrun, hO, fun g hg => ?_, h.kept.trans k2 (fun x hx => .inr (h.new x (by simpa using hx)))⟩
  rcases hN g hg with h3 | h3
  · exact h.new g h3
  · exact Nat.le_trans h.kept.size h3
end
/-- A program that is built: the box g, of type T, and its two rows; all new since w. -/
structure PB (T e : TypeId) (w wr : World) (g : Nat) (v u : Value) (p : Pg) : Prop where
  box : wr.heap[g]? = some (.cells #[v, u] T (0, 0))
  names : Out 9 1 w wr v (rowN p.names)
  code : Out e 2 w wr u (rowI p.code)
  hg : w.heap.size ≤ g
section
variable {T e : TypeId} {w wr w2 : World} {g : Nat} {v u : Value} {p : Pg}
theorem PB.kept (h : PB T e w wr g v u p) : Kept [] w wr := h.names.kept
theorem PB.keep (h : PB T e w wr g v u p) (k : Kept [] wr w2) : PB T e w w2 g v u p := ⟨k.keeps h.box (by simp), h.names.keep k, h.code.keep k, h.hg⟩
theorem PB.c0 (h : PB T e w wr g v u p) : wr.cell? ⟨g, 0, none⟩ = some v := by simp [World.cell?, h.box]
theorem PB.c1 (h : PB T e w wr g v u p) : wr.cell? ⟨g, 1, none⟩ = some u := by simp [World.cell?, h.box]
theorem PB.f0 (h : PB T e w wr g v u p) : wr.frozen? ⟨g, 0, none⟩ = false := by simp [World.frozen?, h.box]
theorem PB.f1 (h : PB T e w wr g v u p) : wr.frozen? ⟨g, 1, none⟩ = false := by simp [World.frozen?, h.box]
theorem PB.isP (h : PB T e w wr g v u p) : IsP wr v u p := ⟨h.names.own.reads (wideN _), h.code.own.reads (wideI _)⟩
theorem PB.forms (h : PB T e w wr g v u p) : ∃ a c b d, v = .slice a p.names.length c ∧ u = .slice b p.code.length d := by
  obtain ⟨a, c, b, d, h1, h2, -⟩ := h.isP.form
  exact ⟨a, c, b, d, h1, h2⟩
theorem PB.start (k : Kept [] w wr) (hb : wr.heap[g]? = some (.cells #[.slice none 0 0, .slice none 0 0] T (0, 0))) (hg : w.heap.size ≤ g) : PB T e w wr g (.slice none 0 0) (.slice none 0 0) ⟨[], []⟩ :=
  ⟨hb, Out.nil k, Out.nil k, hg⟩
/-- A name more: the append's run, and the box with the new row. -/
theorem PB.addName (hT : T ≠ 9) (he : e ≠ 9) (hTe : T ≠ e) (h : PB T e w wr g v u p) (hl : p.names.length ≤ 900000) (s : List UInt8) (t : TypeId) (fr : Nat × Nat) (ty : TypeId) :
    ∃ ad c w2, (Builtin.append_ #[22, 22] ty #[v, .slice (some ⟨wr.heap.size, 0, none⟩) 1 1]).run Tryd.prog (wr.alloc (.cells [Value.string ⟨s.toArray⟩].toArray t fr)) = .ok (.slice ad (p.names.length + 1) c) w2 ∧ w2.cell? ⟨g, 0, none⟩ = some v ∧ w2.frozen? ⟨g, 0, none⟩ = false ∧ PB T e w (w2.setCell ⟨g, 0, none⟩ (.slice ad (p.names.length + 1) c)) g (.slice ad (p.names.length + 1) c) u ⟨p.names ++ [s], p.code⟩ := by
  have hl' : (rowN p.names).length ≤ 900000 := by rw [rowN_length]; exact hl
  obtain ⟨ad, c, w2, hrun, hO, k2, hN⟩ := append_rowR rt22 h.names.own [.string ⟨s.toArray⟩] rfl (by simp [Value.oneCell']) hl' t fr ty
  rw [rowN_length] at hrun hO hN
  have gv : v.ownBlock ≠ some g := ownsR_ne h.names.own h.box hT
  have hb2 : w2.heap[g]? = some (.cells #[v, u] T (0, 0)) := k2.keeps h.box (by simpa using gv)
  have hc2 : OwnsR e 2 w2 u (rowI p.code) := h.code.own.kept k2 (fun g' hg' hm => own_apart h.code.own h.names.own he hg' (by simpa using hm))
  have e1 : rowN (p.names ++ [s]) = rowN p.names ++ [[.string ⟨s.toArray⟩]] := by simp [rowN]
  have ks : Kept [g] w2 (w2.setCell ⟨g, 0, none⟩ (.slice ad (p.names.length + 1) c)) := (Kept.refl [g] w2).setCell (.inl (by simp)) _
  have gn : ∀ g', (Value.slice ad (p.names.length + 1) c).ownBlock = some g' → g' ∉ [g] := fun g' hg' hm => by
    simp at hm
    subst hm
    exact ownsR_ne hO hb2 hT hg'
  have gu : ∀ g', u.ownBlock = some g' → g' ∉ [g] := fun g' hg' hm => by
    simp at hm
    subst hm
    exact ownsR_ne hc2 hb2 hTe hg'
  have kw : Kept [] w (w2.setCell ⟨g, 0, none⟩ (.slice ad (p.names.length + 1) c)) := (h.kept.trans k2 (fun x hx => .inr (h.names.new x (by simpa using hx)))).trans ks (fun x hx => .inr (by simp at hx; subst hx; exact h.hg))
  refine ⟨ad, c, w2, hrun, by simp [World.cell?, hb2], by simp [World.frozen?, hb2], ⟨set_at hb2, ⟨?_, fun g' hg' => ?_, kw⟩, ⟨hc2.kept ks gu, h.code.new, kw⟩, h.hg⟩⟩
  · rw [e1]; exact hO.kept ks gn
  · rcases hN g' hg' with h3 | h3
    · exact h.names.new g' h3
    · exact Nat.le_trans h.kept.size h3
/-- An instruction more. -/
theorem PB.addCode {T' : TypeId} {b : Nat} {z : Value} (R : RowT T' e 2 b z) (he : e ≠ 9) (hTe : T ≠ e) (hT : T ≠ 9) (h : PB T e w wr g v u p) (hl : p.code.length ≤ 900000) (x : In) (t : TypeId) (fr : Nat × Nat) (ty : TypeId) :
    ∃ ad c w2, (Builtin.append_ #[T', T'] ty #[u, .slice (some ⟨wr.heap.size, 0, none⟩) 1 1]).run Tryd.prog (wr.alloc (.cells [Value.int .i64 x.op, .int .i64 x.arg].toArray t fr)) = .ok (.slice ad (p.code.length + 1) c) w2 ∧ w2.cell? ⟨g, 1, none⟩ = some u ∧ w2.frozen? ⟨g, 1, none⟩ = false ∧ PB T e w (w2.setCell ⟨g, 1, none⟩ (.slice ad (p.code.length + 1) c)) g v (.slice ad (p.code.length + 1) c) ⟨p.names, p.code ++ [x]⟩ := by
  have hl' : (rowI p.code).length ≤ 900000 := by rw [rowI_length]; exact hl
  obtain ⟨ad, c, w2, hrun, hO, k2, hN⟩ := append_rowR R h.code.own [.int .i64 x.op, .int .i64 x.arg] rfl (by simp [Value.oneCell']) hl' t fr ty
  rw [rowI_length] at hrun hO hN
  have gv : u.ownBlock ≠ some g := ownsR_ne h.code.own h.box hTe
  have hb2 : w2.heap[g]? = some (.cells #[v, u] T (0, 0)) := k2.keeps h.box (by simpa using gv)
  have hc2 : OwnsR 9 1 w2 v (rowN p.names) := h.names.own.kept k2 (fun g' hg' hm => own_apart h.names.own h.code.own (Ne.symm he) hg' (by simpa using hm))
  have e1 : rowI (p.code ++ [x]) = rowI p.code ++ [[.int .i64 x.op, .int .i64 x.arg]] := by simp [rowI]
  have ks : Kept [g] w2 (w2.setCell ⟨g, 1, none⟩ (.slice ad (p.code.length + 1) c)) := (Kept.refl [g] w2).setCell (.inl (by simp)) _
  have gn : ∀ g', (Value.slice ad (p.code.length + 1) c).ownBlock = some g' → g' ∉ [g] := fun g' hg' hm => by
    simp at hm
    subst hm
    exact ownsR_ne hO hb2 hTe hg'
  have gu : ∀ g', v.ownBlock = some g' → g' ∉ [g] := fun g' hg' hm => by
    simp at hm
    subst hm
    exact ownsR_ne hc2 hb2 hT hg'
  have kw : Kept [] w (w2.setCell ⟨g, 1, none⟩ (.slice ad (p.code.length + 1) c)) := (h.kept.trans k2 (fun x hx => .inr (h.code.new x (by simpa using hx)))).trans ks (fun x hx => .inr (by simp at hx; subst hx; exact h.hg))
  refine ⟨ad, c, w2, hrun, by simp [World.cell?, hb2], by simp [World.frozen?, hb2], ⟨set_at hb2, ⟨hc2.kept ks gu, h.names.new, kw⟩, ⟨?_, fun g' hg' => ?_, kw⟩, h.hg⟩⟩
  · rw [e1]; exact hO.kept ks gn
  · rcases hN g' hg' with h3 | h3
    · exact h.code.new g' h3
    · exact Nat.le_trans h.kept.size h3
end
end Go.Proofs.YtpodoiichpnpjaaDoor
