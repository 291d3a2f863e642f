import Derived.Test.YtngnenbidpojeaaGreatDoorV22
import Derived.Test.YtngnenbidpojeaaGreatDoorV25
/-
  What has come of a run, in memory: eight registers, three rows that grow and the steps, behind whatever stands ahead of them in the block. Over any types.
-/
namespace Go.Proofs.YtngnenbidpojeaaGreatDoor
open Go.RowKit
set_option maxRecDepth 100000
set_option linter.unusedVariables false
abbrev Iv_N (z : Int) : Value := .int .i64 z
def BI_N (l : List Int) : List Value := l.map fun z => .int .i64 z
theorem BI_length_N (l : List Int) : (BI_N l).length = l.length := by simp [BI_N]
theorem BI_get_N {l : List Int} {i : Nat} {x : Int} (h : l[i]? = some x) : (BI_N l)[i]? = some (Iv_N x) := by simp [BI_N, h]
theorem BI_set_N (l : List Int) (i : Nat) (x : Int) : (BI_N l).set i (Iv_N x) = BI_N (l.set i x) := by simp [BI_N, List.map_set]
theorem BI_one_N (l : List Int) : ∀ v ∈ BI_N l, v.oneCell' = true := fun v hv => by
  obtain ⟨z, -, rfl⟩ := List.mem_map.1 hv
  rfl
def rowJ (l : List Int) : List (List Value) := l.map fun z => [.int .i64 z]
def rowE (l : List Ev) : List (List Value) := l.map fun e => [.int .i64 (e.r : Int), .int .i64 e.v]
def rowS (l : List Sn) : List (List Value) := l.map fun e => [.string ⟨e.to.toArray⟩, .int .i64 e.kind, .int .i64 e.arg]
def rowT (l : List Tm) : List (List Value) := l.map fun e => [.string ⟨e.nm.toArray⟩, .bool e.can, .int .i64 e.due, .int .i64 e.per, .int .i64 e.kind]
theorem rowJ_length (l : List Int) : (rowJ l).length = l.length := by simp [rowJ]
theorem rowE_length (l : List Ev) : (rowE l).length = l.length := by simp [rowE]
theorem rowS_length (l : List Sn) : (rowS l).length = l.length := by simp [rowS]
theorem rowT_length (l : List Tm) : (rowT l).length = l.length := by simp [rowT]
theorem wideE (l : List Ev) : Wide 2 (rowE l) := fun r hr => by
  obtain ⟨s, -, rfl⟩ := List.mem_map.1 hr
  exact ⟨rfl, fun u hu => by simp at hu; rcases hu with rfl | rfl <;> rfl⟩
theorem wideS (l : List Sn) : Wide 3 (rowS l) := fun r hr => by
  obtain ⟨s, -, rfl⟩ := List.mem_map.1 hr
  exact ⟨rfl, fun u hu => by simp at hu; rcases hu with rfl | rfl | rfl <;> rfl⟩
theorem wideT (l : List Tm) : Wide 5 (rowT l) := fun r hr => by
  obtain ⟨s, -, rfl⟩ := List.mem_map.1 hr
  exact ⟨rfl, fun u hu => by simp at hu; rcases hu with rfl | rfl | rfl | rfl | rfl <;> rfl⟩
theorem cell_list_N {w : World} {p : Nat} {L : List Value} {t : TypeId} {fz : Nat × Nat} (h : w.heap[p]? = some (.cells L.toArray t fz)) {i : Nat} {x : Value} (hi : L[i]? = some x) : w.cell? ⟨p, i, none⟩ = some x := by
  simp [World.cell?, h, hi]
section
variable {e e' T : TypeId} {k k' : Nat} {w wr w2 : World} {u u' : Value} {rs rs' : List (List Value)}
/-- Another row was turned. -/
theorem Out.besides (h : Out e k w wr u rs) (h' : Out e' k' w wr u' rs') (hne : e ≠ e') (k2 : Kept u'.ownBlock.toList wr w2) : Out e k w w2 u rs :=
  ⟨h.own.kept k2 (fun g' hg' hm => own_apart h.own h'.own hne hg' (by simpa using hm)), h.new, h.kept.trans k2 (fun x hx => .inr (h'.new x (by simpa using hx)))⟩
/-- A box of another type was turned. -/
theorem Out.boxed {g : Nat} {cs : Array Value} {fz : Nat × Nat} (h : Out e k w wr u rs) (hb : wr.heap[g]? = some (.cells cs T fz)) (hT : T ≠ e) (hg : w.heap.size ≤ g) (k2 : Kept [g] wr w2) : Out e k w w2 u rs :=
  ⟨h.own.kept k2 (fun g' hg' hm => by simp at hm; subst hm; exact ownsR_ne h.own hb hT hg'), h.new, h.kept.trans k2 (fun x hx => .inr (by simp at hx; subst hx; exact hg))⟩
end
/-- The types of the block and of the rows' members. -/
structure Ty where
  T : TypeId
  e1 : TypeId
  e2 : TypeId
  e3 : TypeId
/-- They are four. -/
def Ty.Ok (t : Ty) : Prop := t.T ≠ t.e1 ∧ t.T ≠ t.e2 ∧ t.T ≠ t.e3 ∧ t.e1 ≠ t.e2 ∧ t.e1 ≠ t.e3 ∧ t.e2 ≠ t.e3
/-- What came of a run. -/
def cellsR (reg : List Int) (ev sn tm : Value) (k : Nat) : List Value := BI_N reg ++ [ev, sn, tm, .int .i64 (k : Int)]
theorem cellsR_length (reg : List Int) (ev sn tm : Value) (k : Nat) : (cellsR reg ev sn tm k).length = reg.length + 4 := by simp [cellsR, BI_length_N]
structure RS (t : Ty) (w0 w : World) (p : Nat) (pre : List Value) (reg : List Int) (E : List Ev) (S : List Sn) (M : List Tm) (k : Nat) (ev sn tm : Value) : Prop where
  box : w.heap[p]? = some (.cells (pre ++ cellsR reg ev sn tm k).toArray t.T (0, 0))
  r8 : reg.length = 8
  ev : Out t.e1 2 w0 w ev (rowE E)
  sn : Out t.e2 3 w0 w sn (rowS S)
  tm : Out t.e3 5 w0 w tm (rowT M)
  hp : w0.heap.size ≤ p
section
variable {t : Ty} {w0 w w' : World} {p : Nat} {pre : List Value} {reg : List Int} {E : List Ev} {S : List Sn} {M : List Tm} {k : Nat} {ev sn tm : Value}
theorem RS.kept (h : RS t w0 w p pre reg E S M k ev sn tm) : Kept [] w0 w := h.ev.kept
theorem RS.keep (h : RS t w0 w p pre reg E S M k ev sn tm) (kk : Kept [] w w') : RS t w0 w' p pre reg E S M k ev sn tm := ⟨kk.keeps h.box (by simp), h.r8, h.ev.keep kk, h.sn.keep kk, h.tm.keep kk, h.hp⟩
theorem RS.free (h : RS t w0 w p pre reg E S M k ev sn tm) (i : Nat) : w.frozen? ⟨p, i, none⟩ = false := by simp [World.frozen?, h.box]
theorem RS.cell_pre (h : RS t w0 w p pre reg E S M k ev sn tm) {i : Nat} {x : Value} (hi : pre[i]? = some x) : w.cell? ⟨p, i, none⟩ = some x :=
  cell_list_N h.box (by rw [List.getElem?_append_left (List.getElem?_eq_some_iff.1 hi).1]; exact hi)
theorem RS.cell_res (h : RS t w0 w p pre reg E S M k ev sn tm) {o i : Nat} {x : Value} (ho : pre.length + i = o) (hi : (cellsR reg ev sn tm k)[i]? = some x) : w.cell? ⟨p, o, none⟩ = some x :=
  cell_list_N h.box (by subst ho; rw [List.getElem?_append_right (by omega), Nat.add_sub_cancel_left]; exact hi)
theorem cellsR_reg {i : Nat} {x : Int} (hi : reg[i]? = some x) : (cellsR reg ev sn tm k)[i]? = some (Iv_N x) := by
  unfold cellsR
  rw [List.getElem?_append_left (by rw [BI_length_N]; exact (List.getElem?_eq_some_iff.1 hi).1)]
  exact BI_get_N hi
theorem cellsR_ev (h : reg.length = 8) : (cellsR reg ev sn tm k)[8]? = some ev := by
  unfold cellsR; rw [List.getElem?_append_right (by rw [BI_length_N]; omega), BI_length_N, h]; rfl
theorem cellsR_sn (h : reg.length = 8) : (cellsR reg ev sn tm k)[9]? = some sn := by
  unfold cellsR; rw [List.getElem?_append_right (by rw [BI_length_N]; omega), BI_length_N, h]; rfl
theorem cellsR_tm (h : reg.length = 8) : (cellsR reg ev sn tm k)[10]? = some tm := by
  unfold cellsR; rw [List.getElem?_append_right (by rw [BI_length_N]; omega), BI_length_N, h]; rfl
theorem cellsR_k (h : reg.length = 8) : (cellsR reg ev sn tm k)[11]? = some (Iv_N (k : Int)) := by
  unfold cellsR; rw [List.getElem?_append_right (by rw [BI_length_N]; omega), BI_length_N, h]; rfl
/-- A cell of the block is set; the rows stay. -/
theorem RS.put (hT : t.Ok) (h : RS t w0 w p pre reg E S M k ev sn tm) {o : Nat} {x : Value} {pre' : List Value} {reg' : List Int} {k' : Nat} (he : (pre ++ cellsR reg ev sn tm k).set o x = pre' ++ cellsR reg' ev sn tm k') (h8 : reg'.length = 8) : RS t w0 (w.setCell ⟨p, o, none⟩ x) p pre' reg' E S M k' ev sn tm := by
  obtain ⟨d1, d2, d3, -, -, -⟩ := hT
  have ks : Kept [p] w (w.setCell ⟨p, o, none⟩ x) := (Kept.refl [p] w).setCell (.inl (by simp)) _
  exact ⟨by rw [set_list h.box, he], h8, h.ev.boxed h.box d1 h.hp ks, h.sn.boxed h.box d2 h.hp ks, h.tm.boxed h.box d3 h.hp ks, h.hp⟩
theorem RS.put_pre (hT : t.Ok) (h : RS t w0 w p pre reg E S M k ev sn tm) {o : Nat} (x : Value) {pre' : List Value} (ho : o < pre.length) (he : pre.set o x = pre') : RS t w0 (w.setCell ⟨p, o, none⟩ x) p pre' reg E S M k ev sn tm :=
  h.put hT (by rw [List.set_append_left _ _ ho, he]) h.r8
theorem RS.put_reg (hT : t.Ok) (h : RS t w0 w p pre reg E S M k ev sn tm) {o i : Nat} (x : Int) (ho : pre.length + i = o) (hi : i < 8) : RS t w0 (w.setCell ⟨p, o, none⟩ (Iv_N x)) p pre (reg.set i x) E S M k ev sn tm := by
  subst ho
  refine h.put hT ?_ (by rw [List.length_set]; exact h.r8)
  rw [List.set_append_right _ _ (by omega), Nat.add_sub_cancel_left]
  unfold cellsR
  rw [List.set_append_left _ _ (by rw [BI_length_N, h.r8]; exact hi), BI_set_N]
theorem RS.put_k (hT : t.Ok) (h : RS t w0 w p pre reg E S M k ev sn tm) {o k' : Nat} {x : Value} (ho : pre.length + 11 = o) (hx : x = .int .i64 (k' : Int)) : RS t w0 (w.setCell ⟨p, o, none⟩ x) p pre reg E S M k' ev sn tm := by
  subst ho
  refine h.put hT ?_ h.r8
  rw [List.set_append_right _ _ (by omega), Nat.add_sub_cancel_left]
  unfold cellsR
  rw [List.set_append_right _ _ (by rw [BI_length_N, h.r8]; omega), BI_length_N, h.r8, hx]
  rfl
/-- An event more. -/
theorem RS.addEv {T' : TypeId} {b : Nat} {z : Value} (R : RowT T' t.e1 2 b z) (hT : t.Ok) (h : RS t w0 w p pre reg E S M k ev sn tm) (hl : E.length ≤ 900000) (x : Ev) (o : Nat) (ho : pre.length + 8 = o) (tt : TypeId) (fr : Nat × Nat) (ty : TypeId) :
    ∃ ad c w2, (Builtin.append_ #[T', T'] ty #[ev, .slice (some ⟨w.heap.size, 0, none⟩) 1 1]).run Tryz.prog (w.alloc (.cells [.int .i64 (x.r : Int), .int .i64 x.v].toArray tt fr)) = .ok (.slice ad (E.length + 1) c) w2 ∧ w2.cell? ⟨p, o, none⟩ = some ev ∧ w2.frozen? ⟨p, o, none⟩ = false ∧ RS t w0 (w2.setCell ⟨p, o, none⟩ (.slice ad (E.length + 1) c)) p pre reg (E ++ [x]) S M k (.slice ad (E.length + 1) c) sn tm := by
  subst ho
  have hl' : (rowE E).length ≤ 900000 := by rw [rowE_length]; exact hl
  obtain ⟨ad, c, w2, hrun, hO, k2, hN⟩ := append_rowR R h.ev.own [.int .i64 (x.r : Int), .int .i64 x.v] rfl (by simp [Value.oneCell']) hl' tt fr ty
  rw [rowE_length] at hrun hO hN
  obtain ⟨d1, d2, d3, d4, d5, d6⟩ := hT
  have gv : ev.ownBlock ≠ some p := ownsR_ne h.ev.own h.box d1
  have hb2 : w2.heap[p]? = some (.cells (pre ++ cellsR reg ev sn tm k).toArray t.T (0, 0)) := k2.keeps h.box (by simpa using gv)
  have h1 := h.sn.besides h.ev (Ne.symm d4) k2
  have h2 := h.tm.besides h.ev (Ne.symm d5) k2
  have e1 : rowE (E ++ [x]) = rowE E ++ [[.int .i64 (x.r : Int), .int .i64 x.v]] := by simp [rowE]
  have h3 : Out t.e1 2 w0 w2 (.slice ad (E.length + 1) c) (rowE (E ++ [x])) := ⟨by rw [e1]; exact hO, fun g' hg' => by
    rcases hN g' hg' with h3 | h3
    · exact h.ev.new g' h3
    · exact Nat.le_trans h.kept.size h3, h1.kept⟩
  have ks : Kept [p] w2 (w2.setCell ⟨p, pre.length + 8, none⟩ (.slice ad (E.length + 1) c)) := (Kept.refl [p] w2).setCell (.inl (by simp)) _
  refine ⟨ad, c, w2, hrun, cell_list_N hb2 (by rw [List.getElem?_append_right (by omega), Nat.add_sub_cancel_left]; exact cellsR_ev h.r8), by simp [World.frozen?, hb2], ⟨?_, h.r8, h3.boxed hb2 d1 h.hp ks, h1.boxed hb2 d2 h.hp ks, h2.boxed hb2 d3 h.hp ks, h.hp⟩⟩
  rw [set_list hb2, List.set_append_right _ _ (by omega), Nat.add_sub_cancel_left]
  unfold cellsR
  rw [List.set_append_right _ _ (by rw [BI_length_N, h.r8]; omega), BI_length_N, h.r8]
  rfl
/-- A letter more. -/
theorem RS.addSn {T' : TypeId} {b : Nat} {z : Value} (R : RowT T' t.e2 3 b z) (hT : t.Ok) (h : RS t w0 w p pre reg E S M k ev sn tm) (hl : S.length ≤ 900000) (x : Sn) (o : Nat) (ho : pre.length + 9 = o) (tt : TypeId) (fr : Nat × Nat) (ty : TypeId) :
    ∃ ad c w2, (Builtin.append_ #[T', T'] ty #[sn, .slice (some ⟨w.heap.size, 0, none⟩) 1 1]).run Tryz.prog (w.alloc (.cells [.string ⟨x.to.toArray⟩, .int .i64 x.kind, .int .i64 x.arg].toArray tt fr)) = .ok (.slice ad (S.length + 1) c) w2 ∧ w2.cell? ⟨p, o, none⟩ = some sn ∧ w2.frozen? ⟨p, o, none⟩ = false ∧ RS t w0 (w2.setCell ⟨p, o, none⟩ (.slice ad (S.length + 1) c)) p pre reg E (S ++ [x]) M k ev (.slice ad (S.length + 1) c) tm := by
  subst ho
  have hl' : (rowS S).length ≤ 900000 := by rw [rowS_length]; exact hl
  obtain ⟨ad, c, w2, hrun, hO, k2, hN⟩ := append_rowR R h.sn.own [.string ⟨x.to.toArray⟩, .int .i64 x.kind, .int .i64 x.arg] rfl (by simp [Value.oneCell']) hl' tt fr ty
  rw [rowS_length] at hrun hO hN
  obtain ⟨d1, d2, d3, d4, d5, d6⟩ := hT
  have gv : sn.ownBlock ≠ some p := ownsR_ne h.sn.own h.box d2
  have hb2 : w2.heap[p]? = some (.cells (pre ++ cellsR reg ev sn tm k).toArray t.T (0, 0)) := k2.keeps h.box (by simpa using gv)
  have h1 := h.ev.besides h.sn d4 k2
  have h2 := h.tm.besides h.sn (Ne.symm d6) k2
  have e1 : rowS (S ++ [x]) = rowS S ++ [[.string ⟨x.to.toArray⟩, .int .i64 x.kind, .int .i64 x.arg]] := by simp [rowS]
  have h3 : Out t.e2 3 w0 w2 (.slice ad (S.length + 1) c) (rowS (S ++ [x])) := ⟨by rw [e1]; exact hO, fun g' hg' => by
    rcases hN g' hg' with h3 | h3
    · exact h.sn.new g' h3
    · exact Nat.le_trans h.kept.size h3, h1.kept⟩
  have ks : Kept [p] w2 (w2.setCell ⟨p, pre.length + 9, none⟩ (.slice ad (S.length + 1) c)) := (Kept.refl [p] w2).setCell (.inl (by simp)) _
  refine ⟨ad, c, w2, hrun, cell_list_N hb2 (by rw [List.getElem?_append_right (by omega), Nat.add_sub_cancel_left]; exact cellsR_sn h.r8), by simp [World.frozen?, hb2], ⟨?_, h.r8, h1.boxed hb2 d1 h.hp ks, h3.boxed hb2 d2 h.hp ks, h2.boxed hb2 d3 h.hp ks, h.hp⟩⟩
  rw [set_list hb2, List.set_append_right _ _ (by omega), Nat.add_sub_cancel_left]
  unfold cellsR
  rw [List.set_append_right _ _ (by rw [BI_length_N, h.r8]; omega), BI_length_N, h.r8]
  rfl
/-- A reminder more. -/
theorem RS.addTm {T' : TypeId} {b : Nat} {z : Value} (R : RowT T' t.e3 5 b z) (hT : t.Ok) (h : RS t w0 w p pre reg E S M k ev sn tm) (hl : M.length ≤ 900000) (x : Tm) (o : Nat) (ho : pre.length + 10 = o) (tt : TypeId) (fr : Nat × Nat) (ty : TypeId) :
    ∃ ad c w2, (Builtin.append_ #[T', T'] ty #[tm, .slice (some ⟨w.heap.size, 0, none⟩) 1 1]).run Tryz.prog (w.alloc (.cells [.string ⟨x.nm.toArray⟩, .bool x.can, .int .i64 x.due, .int .i64 x.per, .int .i64 x.kind].toArray tt fr)) = .ok (.slice ad (M.length + 1) c) w2 ∧ w2.cell? ⟨p, o, none⟩ = some tm ∧ w2.frozen? ⟨p, o, none⟩ = false ∧ RS t w0 (w2.setCell ⟨p, o, none⟩ (.slice ad (M.length + 1) c)) p pre reg E S (M ++ [x]) k ev sn (.slice ad (M.length + 1) c) := by
  subst ho
  have hl' : (rowT M).length ≤ 900000 := by rw [rowT_length]; exact hl
  obtain ⟨ad, c, w2, hrun, hO, k2, hN⟩ := append_rowR R h.tm.own [.string ⟨x.nm.toArray⟩, .bool x.can, .int .i64 x.due, .int .i64 x.per, .int .i64 x.kind] rfl (by simp [Value.oneCell']) hl' tt fr ty
  rw [rowT_length] at hrun hO hN
  obtain ⟨d1, d2, d3, d4, d5, d6⟩ := hT
  have gv : tm.ownBlock ≠ some p := ownsR_ne h.tm.own h.box d3
  have hb2 : w2.heap[p]? = some (.cells (pre ++ cellsR reg ev sn tm k).toArray t.T (0, 0)) := k2.keeps h.box (by simpa using gv)
  have h1 := h.ev.besides h.tm d5 k2
  have h2 := h.sn.besides h.tm d6 k2
  have e1 : rowT (M ++ [x]) = rowT M ++ [[.string ⟨x.nm.toArray⟩, .bool x.can, .int .i64 x.due, .int .i64 x.per, .int .i64 x.kind]] := by simp [rowT]
  have h3 : Out t.e3 5 w0 w2 (.slice ad (M.length + 1) c) (rowT (M ++ [x])) := ⟨by rw [e1]; exact hO, fun g' hg' => by
    rcases hN g' hg' with h3 | h3
    · exact h.tm.new g' h3
    · exact Nat.le_trans h.kept.size h3, h1.kept⟩
  have ks : Kept [p] w2 (w2.setCell ⟨p, pre.length + 10, none⟩ (.slice ad (M.length + 1) c)) := (Kept.refl [p] w2).setCell (.inl (by simp)) _
  refine ⟨ad, c, w2, hrun, cell_list_N hb2 (by rw [List.getElem?_append_right (by omega), Nat.add_sub_cancel_left]; exact cellsR_tm h.r8), by simp [World.frozen?, hb2], ⟨?_, h.r8, h1.boxed hb2 d1 h.hp ks, h2.boxed hb2 d2 h.hp ks, h3.boxed hb2 d3 h.hp ks, h.hp⟩⟩
  rw [set_list hb2, List.set_append_right _ _ (by omega), Nat.add_sub_cancel_left]
  unfold cellsR
  rw [List.set_append_right _ _ (by rw [BI_length_N, h.r8]; omega), BI_length_N, h.r8]
  rfl
end
end Go.Proofs.YtngnenbidpojeaaGreatDoor
