import Derived.Test.YtngnenbidpojeaaGreatDoorT07
import Derived.Test.YtngnenbidpojeaaGreatDoorT11
import Derived.Test.YtngnenbidpojeaaGreatDoorT16
import Derived.Test.YtngnenbidpojeaaGreatDoorT17
import Derived.Test.YtngnenbidpojeaaGreatDoorT18
/-
 What has come of a run, in memory: eight registers, three rows that grow and the steps, behind whatever stands ahead of them in the block. Over any types.
-/
namespace Go.Proofs.YtngnenbidpojeaaGreatDoor
open Go.RowKit
set_option maxRecDepth 100000
set_option linter.unusedVariables false
abbrev Iv_N (z : Int) : Value := .int .i64 z
def BI_N (l : List Int) : List Value := l.map fun z => .int .i64 z
theorem BI_length_N (l : List Int) : (BI_N l).length = l.length := by simp [BI_N]
theorem BI_get_N {l : List Int} {i : Nat} {x : Int} (h : l[i]? = some x) : (BI_N l)[i]? = some (Iv_N x) := by simp [BI_N, h]
theorem BI_set_N (l : List Int) (i : Nat) (x : Int) : (BI_N l).set i (Iv_N x) = BI_N (l.set i x) := by simp [BI_N, List.map_set]
theorem BI_one_N (l : List Int) : ∀ v ∈ BI_N l, v.oneCell' = true := fun v hv => by
 obtain ⟨z, -, rfl⟩ := List.mem_map.1 hv
 rfl
def rowJ (l : List Int) : List (List Value) := l.map fun z => [.int .i64 z]
def rowE (l : List Ev) : List (List Value) := l.map fun e => [.int .i64 (e.r : Int), .int .i64 e.v]
def rowS (l : List Sn) : List (List Value) := l.map fun e => [.string ⟨e.to.toArray⟩, .int .i64 e.kind, .int .i64 e.arg]
def rowT (l : List Tm) : List (List Value) := l.map fun e => [.string ⟨e.nm.toArray⟩, .bool e.can, .int .i64 e.due, .int .i64 e.per, .int .i64 e.kind]
theorem rowJ_length (l : List Int) : (rowJ l).length = l.length := by simp [rowJ]
theorem rowE_length (l : List Ev) : (rowE l).length = l.length := by simp [rowE]
theorem rowS_length (l : List Sn) : (rowS l).length = l.length := by simp [rowS]
theorem rowT_length (l : List Tm) : (rowT l).length = l.length := by simp [rowT]
theorem wideJ (l : List Int) : Wide 1 (rowJ l) := fun r hr => by
 obtain ⟨s, -, rfl⟩ := List.mem_map.1 hr
 exact ⟨rfl, fun u hu => by simp at hu; subst hu; rfl⟩
theorem wideE (l : List Ev) : Wide 2 (rowE l) := fun r hr => by
 obtain ⟨s, -, rfl⟩ := List.mem_map.1 hr
 exact ⟨rfl, fun u hu => by simp at hu; rcases hu with rfl | rfl <;> rfl⟩
theorem wideS (l : List Sn) : Wide 3 (rowS l) := fun r hr => by
 obtain ⟨s, -, rfl⟩ := List.mem_map.1 hr
 exact ⟨rfl, fun u hu => by simp at hu; rcases hu with rfl | rfl | rfl <;> rfl⟩
theorem wideT (l : List Tm) : Wide 5 (rowT l) := fun r hr => by
 obtain ⟨s, -, rfl⟩ := List.mem_map.1 hr
 exact ⟨rfl, fun u hu => by simp at hu; rcases hu with rfl | rfl | rfl | rfl | rfl <;> rfl⟩
theorem cell_list_N {w : World} {p : Nat} {L : List Value} {t : TypeId} {fz : Nat × Nat} (h : w.heap[p]? = some (.cells L.toArray t fz)) {i : Nat} {x : Value} (hi : L[i]? = some x) : w.cell? ⟨p, i, none⟩ = some x := by
 simp [World.cell?, h, hi]
section
variable {e e' T : TypeId} {k k' : Nat} {w wr w2 : World} {u u' : Value} {rs rs' : List (List Value)}
theorem Out.besides (h : Out e k w wr u rs) (h' : Out e' k' w wr u' rs') (hne : e ≠ e') (k2 : Kept u'.ownBlock.toList wr w2) : Out e k w w2 u rs :=
 ⟨h.own.kept k2 (fun g' hg' hm => own_apart h.own h'.own hne hg' (by simpa using hm)), h.new, h.kept.trans k2 (fun x hx => .inr (h'.new x (by simpa using hx)))⟩
theorem Out.boxed {g : Nat} {cs : Array Value} {fz : Nat × Nat} (h : Out e k w wr u rs) (hb : wr.heap[g]? = some (.cells cs T fz)) (hT : T ≠ e) (hg : w.heap.size ≤ g) (k2 : Kept [g] wr w2) : Out e k w w2 u rs :=
 ⟨h.own.kept k2 (fun g' hg' hm => by simp at hm; subst hm; exact ownsR_ne h.own hb hT hg'), h.new, h.kept.trans k2 (fun x hx => .inr (by simp at hx; subst hx; exact hg))⟩
end
structure Ty where
 T : TypeId
 e1 : TypeId
 e2 : TypeId
 e3 : TypeId
def Ty.Ok (t : Ty) : Prop := t.T ≠ t.e1 ∧ t.T ≠ t.e2 ∧ t.T ≠ t.e3 ∧ t.e1 ≠ t.e2 ∧ t.e1 ≠ t.e3 ∧ t.e2 ≠ t.e3
def cellsR (reg : List Int) (ev sn tm : Value) (k : Nat) : List Value := BI_N reg ++ [ev, sn, tm, .int .i64 (k : Int)]
theorem cellsR_length (reg : List Int) (ev sn tm : Value) (k : Nat) : (cellsR reg ev sn tm k).length = reg.length + 4 := by simp [cellsR, BI_length_N]
structure RS (t : Ty) (w0 w : World) (p : Nat) (pre : List Value) (reg : List Int) (E : List Ev) (S : List Sn) (M : List Tm) (k : Nat) (ev sn tm : Value) : Prop where
 box : w.heap[p]? = some (.cells (pre ++ cellsR reg ev sn tm k).toArray t.T (0, 0))
 r8 : reg.length = 8
 ev : Out t.e1 2 w0 w ev (rowE E)
 sn : Out t.e2 3 w0 w sn (rowS S)
 tm : Out t.e3 5 w0 w tm (rowT M)
 hp : w0.heap.size ≤ p
section
variable {t : Ty} {w0 w w' : World} {p : Nat} {pre : List Value} {reg : List Int} {E : List Ev} {S : List Sn} {M : List Tm} {k : Nat} {ev sn tm : Value}
theorem RS.kept (h : RS t w0 w p pre reg E S M k ev sn tm) : Kept [] w0 w := h.ev.kept
theorem RS.keep (h : RS t w0 w p pre reg E S M k ev sn tm) (kk : Kept [] w w') : RS t w0 w' p pre reg E S M k ev sn tm := ⟨kk.keeps h.box (by simp), h.r8, h.ev.keep kk, h.sn.keep kk, h.tm.keep kk, h.hp⟩
theorem RS.free (h : RS t w0 w p pre reg E S M k ev sn tm) (i : Nat) : w.frozen? ⟨p, i, none⟩ = false := by simp [World.frozen?, h.box]
theorem RS.cell_pre (h : RS t w0 w p pre reg E S M k ev sn tm) {i : Nat} {x : Value} (hi : pre[i]? = some x) : w.cell? ⟨p, i, none⟩ = some x :=
 cell_list_N h.box (by rw [List.getElem?_append_left (List.getElem?_eq_some_iff.1 hi).1]; exact hi)
theorem RS.cell_res (h : RS t w0 w p pre reg E S M k ev sn tm) {o i : Nat} {x : Value} (ho : pre.length + i = o) (hi : (cellsR reg ev sn tm k)[i]? = some x) : w.cell? ⟨p, o, none⟩ = some x :=
 cell_list_N h.box (by subst ho; rw [List.getElem?_append_right (by omega), Nat.add_sub_cancel_left]; exact hi)
theorem cellsR_reg {i : Nat} {x : Int} (hi : reg[i]? = some x) : (cellsR reg ev sn tm k)[i]? = some (Iv_N x) := by
 unfold cellsR
 rw [List.getElem?_append_left (by rw [BI_length_N]; exact (List.getElem?_eq_some_iff.1 hi).1)]
 exact BI_get_N hi
theorem cellsR_ev (h : reg.length = 8) : (cellsR reg ev sn tm k)[8]? = some ev := by
 unfold cellsR; rw [List.getElem?_append_right (by rw [BI_length_N]; omega), BI_length_N, h]; rfl
theorem cellsR_sn (h : reg.length = 8) : (cellsR reg ev sn tm k)[9]? = some sn := by
 unfold cellsR; rw [List.getElem?_append_right (by rw [BI_length_N]; omega), BI_length_N, h]; rfl
theorem cellsR_tm (h : reg.length = 8) : (cellsR reg ev sn tm k)[10]? = some tm := by
 unfold cellsR; rw [List.getElem?_append_right (by rw [BI_length_N]; omega), BI_length_N, h]; rfl
theorem cellsR_k (h : reg.length = 8) : (cellsR reg ev sn tm k)[11]? = some (Iv_N (k : Int)) := by
 unfold cellsR; rw [List.getElem?_append_right (by rw [BI_length_N]; omega), BI_length_N, h]; rfl
theorem RS.put (hT : t.Ok) (h : RS t w0 w p pre reg E S M k ev sn tm) {o : Nat} {x : Value} {pre' : List Value} {reg' : List Int} {k' : Nat} (he : (pre ++ cellsR reg ev sn tm k).set o x = pre' ++ cellsR reg' ev sn tm k') (h8 : reg'.length = 8) : RS t w0 (w.setCell ⟨p, o, none⟩ x) p pre' reg' E S M k' ev sn tm := by
 obtain ⟨d1, d2, d3, -, -, -⟩ := hT
 have ks : Kept [p] w (w.setCell ⟨p, o, none⟩ x) := (Kept.refl [p] w).setCell (.inl (by simp)) _
 exact ⟨by rw [set_list h.box, he], h8, h.ev.boxed h.box d1 h.hp ks, h.sn.boxed h.box d2 h.hp ks, h.tm.boxed h.box d3 h.hp ks, h.hp⟩
theorem RS.put_pre (hT : t.Ok) (h : RS t w0 w p pre reg E S M k ev sn tm) {o : Nat} (x : Value) {pre' : List Value} (ho : o < pre.length) (he : pre.set o x = pre') : RS t w0 (w.setCell ⟨p, o, none⟩ x) p pre' reg E S M k ev sn tm :=
 h.put hT (by rw [List.set_append_left _ _ ho, he]) h.r8
theorem RS.put_reg (hT : t.Ok) (h : RS t w0 w p pre reg E S M k ev sn tm) {o i : Nat} (x : Int) (ho : pre.length + i = o) (hi : i < 8) : RS t w0 (w.setCell ⟨p, o, none⟩ (Iv_N x)) p pre (reg.set i x) E S M k ev sn tm := by
 subst ho
 refine h.put hT ?_ (by rw [List.length_set]; exact h.r8)
 rw [List.set_append_right _ _ (by omega), Nat.add_sub_cancel_left]
 unfold cellsR
 rw [List.set_append_left _ _ (by rw [BI_length_N, h.r8]; exact hi), BI_set_N]
theorem RS.put_k (hT : t.Ok) (h : RS t w0 w p pre reg E S M k ev sn tm) {o k' : Nat} {x : Value} (ho : pre.length + 11 = o) (hx : x = .int .i64 (k' : Int)) : RS t w0 (w.setCell ⟨p, o, none⟩ x) p pre reg E S M k' ev sn tm := by
 subst ho
 refine h.put hT ?_ h.r8
 rw [List.set_append_right _ _ (by omega), Nat.add_sub_cancel_left]
 unfold cellsR
 rw [List.set_append_right _ _ (by rw [BI_length_N, h.r8]; omega), BI_length_N, h.r8, hx]
 rfl
theorem RS.addEv {T' : TypeId} {b : Nat} {z : Value} (R : RowT T' t.e1 2 b z) (hT : t.Ok) (h : RS t w0 w p pre reg E S M k ev sn tm) (hl : E.length ≤ 900000) (x : Ev) (o : Nat) (ho : pre.length + 8 = o) (tt : TypeId) (fr : Nat × Nat) (ty : TypeId) :
  ∃ ad c w2, (Builtin.append_ #[T', T'] ty #[ev, .slice (some ⟨w.heap.size, 0, none⟩) 1 1]).run Tryz.prog (w.alloc (.cells [.int .i64 (x.r : Int), .int .i64 x.v].toArray tt fr)) = .ok (.slice ad (E.length + 1) c) w2 ∧ w2.cell? ⟨p, o, none⟩ = some ev ∧ w2.frozen? ⟨p, o, none⟩ = false ∧ RS t w0 (w2.setCell ⟨p, o, none⟩ (.slice ad (E.length + 1) c)) p pre reg (E ++ [x]) S M k (.slice ad (E.length + 1) c) sn tm := by
 subst ho
 have hl' : (rowE E).length ≤ 900000 := by rw [rowE_length]; exact hl
 obtain ⟨ad, c, w2, hrun, hO, k2, hN⟩ := append_rowR R h.ev.own [.int .i64 (x.r : Int), .int .i64 x.v] rfl (by simp [Value.oneCell']) hl' tt fr ty
 rw [rowE_length] at hrun hO hN
 obtain ⟨d1, d2, d3, d4, d5, d6⟩ := hT
 have gv : ev.ownBlock ≠ some p := ownsR_ne h.ev.own h.box d1
 have hb2 : w2.heap[p]? = some (.cells (pre ++ cellsR reg ev sn tm k).toArray t.T (0, 0)) := k2.keeps h.box (by simpa using gv)
 have h1 := h.sn.besides h.ev (Ne.symm d4) k2
 have h2 := h.tm.besides h.ev (Ne.symm d5) k2
 have e1 : rowE (E ++ [x]) = rowE E ++ [[.int .i64 (x.r : Int), .int .i64 x.v]] := by simp [rowE]
 have h3 : Out t.e1 2 w0 w2 (.slice ad (E.length + 1) c) (rowE (E ++ [x])) := ⟨by rw [e1]; exact hO, fun g' hg' => by
  rcases hN g' hg' with h3 | h3
  ·exact h.ev.new g' h3
  ·exact Nat.le_trans h.kept.size h3, h1.kept⟩
 have ks : Kept [p] w2 (w2.setCell ⟨p, pre.length + 8, none⟩ (.slice ad (E.length + 1) c)) := (Kept.refl [p] w2).setCell (.inl (by simp)) _
 refine ⟨ad, c, w2, hrun, cell_list_N hb2 (by rw [List.getElem?_append_right (by omega), Nat.add_sub_cancel_left]; exact cellsR_ev h.r8), by simp [World.frozen?, hb2], ⟨?_, h.r8, h3.boxed hb2 d1 h.hp ks, h1.boxed hb2 d2 h.hp ks, h2.boxed hb2 d3 h.hp ks, h.hp⟩⟩
 rw [set_list hb2, List.set_append_right _ _ (by omega), Nat.add_sub_cancel_left]
 unfold cellsR
 rw [List.set_append_right _ _ (by rw [BI_length_N, h.r8]; omega), BI_length_N, h.r8]
 rfl
theorem RS.addSn {T' : TypeId} {b : Nat} {z : Value} (R : RowT T' t.e2 3 b z) (hT : t.Ok) (h : RS t w0 w p pre reg E S M k ev sn tm) (hl : S.length ≤ 900000) (x : Sn) (o : Nat) (ho : pre.length + 9 = o) (tt : TypeId) (fr : Nat × Nat) (ty : TypeId) :
  ∃ ad c w2, (Builtin.append_ #[T', T'] ty #[sn, .slice (some ⟨w.heap.size, 0, none⟩) 1 1]).run Tryz.prog (w.alloc (.cells [.string ⟨x.to.toArray⟩, .int .i64 x.kind, .int .i64 x.arg].toArray tt fr)) = .ok (.slice ad (S.length + 1) c) w2 ∧ w2.cell? ⟨p, o, none⟩ = some sn ∧ w2.frozen? ⟨p, o, none⟩ = false ∧ RS t w0 (w2.setCell ⟨p, o, none⟩ (.slice ad (S.length + 1) c)) p pre reg E (S ++ [x]) M k ev (.slice ad (S.length + 1) c) tm := by
 subst ho
 have hl' : (rowS S).length ≤ 900000 := by rw [rowS_length]; exact hl
 obtain ⟨ad, c, w2, hrun, hO, k2, hN⟩ := append_rowR R h.sn.own [.string ⟨x.to.toArray⟩, .int .i64 x.kind, .int .i64 x.arg] rfl (by simp [Value.oneCell']) hl' tt fr ty
 rw [rowS_length] at hrun hO hN
 obtain ⟨d1, d2, d3, d4, d5, d6⟩ := hT
 have gv : sn.ownBlock ≠ some p := ownsR_ne h.sn.own h.box d2
 have hb2 : w2.heap[p]? = some (.cells (pre ++ cellsR reg ev sn tm k).toArray t.T (0, 0)) := k2.keeps h.box (by simpa using gv)
 have h1 := h.ev.besides h.sn d4 k2
 have h2 := h.tm.besides h.sn (Ne.symm d6) k2
 have e1 : rowS (S ++ [x]) = rowS S ++ [[.string ⟨x.to.toArray⟩, .int .i64 x.kind, .int .i64 x.arg]] := by simp [rowS]
 have h3 : Out t.e2 3 w0 w2 (.slice ad (S.length + 1) c) (rowS (S ++ [x])) := ⟨by rw [e1]; exact hO, fun g' hg' => by
  rcases hN g' hg' with h3 | h3
  ·exact h.sn.new g' h3
  ·exact Nat.le_trans h.kept.size h3, h1.kept⟩
 have ks : Kept [p] w2 (w2.setCell ⟨p, pre.length + 9, none⟩ (.slice ad (S.length + 1) c)) := (Kept.refl [p] w2).setCell (.inl (by simp)) _
 refine ⟨ad, c, w2, hrun, cell_list_N hb2 (by rw [List.getElem?_append_right (by omega), Nat.add_sub_cancel_left]; exact cellsR_sn h.r8), by simp [World.frozen?, hb2], ⟨?_, h.r8, h1.boxed hb2 d1 h.hp ks, h3.boxed hb2 d2 h.hp ks, h2.boxed hb2 d3 h.hp ks, h.hp⟩⟩
 rw [set_list hb2, List.set_append_right _ _ (by omega), Nat.add_sub_cancel_left]
 unfold cellsR
 rw [List.set_append_right _ _ (by rw [BI_length_N, h.r8]; omega), BI_length_N, h.r8]
 rfl
theorem RS.addTm {T' : TypeId} {b : Nat} {z : Value} (R : RowT T' t.e3 5 b z) (hT : t.Ok) (h : RS t w0 w p pre reg E S M k ev sn tm) (hl : M.length ≤ 900000) (x : Tm) (o : Nat) (ho : pre.length + 10 = o) (tt : TypeId) (fr : Nat × Nat) (ty : TypeId) :
  ∃ ad c w2, (Builtin.append_ #[T', T'] ty #[tm, .slice (some ⟨w.heap.size, 0, none⟩) 1 1]).run Tryz.prog (w.alloc (.cells [.string ⟨x.nm.toArray⟩, .bool x.can, .int .i64 x.due, .int .i64 x.per, .int .i64 x.kind].toArray tt fr)) = .ok (.slice ad (M.length + 1) c) w2 ∧ w2.cell? ⟨p, o, none⟩ = some tm ∧ w2.frozen? ⟨p, o, none⟩ = false ∧ RS t w0 (w2.setCell ⟨p, o, none⟩ (.slice ad (M.length + 1) c)) p pre reg E S (M ++ [x]) k ev sn (.slice ad (M.length + 1) c) := by
 subst ho
 have hl' : (rowT M).length ≤ 900000 := by rw [rowT_length]; exact hl
 obtain ⟨ad, c, w2, hrun, hO, k2, hN⟩ := append_rowR R h.tm.own [.string ⟨x.nm.toArray⟩, .bool x.can, .int .i64 x.due, .int .i64 x.per, .int .i64 x.kind] rfl (by simp [Value.oneCell']) hl' tt fr ty
 rw [rowT_length] at hrun hO hN
 obtain ⟨d1, d2, d3, d4, d5, d6⟩ := hT
 have gv : tm.ownBlock ≠ some p := ownsR_ne h.tm.own h.box d3
 have hb2 : w2.heap[p]? = some (.cells (pre ++ cellsR reg ev sn tm k).toArray t.T (0, 0)) := k2.keeps h.box (by simpa using gv)
 have h1 := h.ev.besides h.tm d5 k2
 have h2 := h.sn.besides h.tm d6 k2
 have e1 : rowT (M ++ [x]) = rowT M ++ [[.string ⟨x.nm.toArray⟩, .bool x.can, .int .i64 x.due, .int .i64 x.per, .int .i64 x.kind]] := by simp [rowT]
 have h3 : Out t.e3 5 w0 w2 (.slice ad (M.length + 1) c) (rowT (M ++ [x])) := ⟨by rw [e1]; exact hO, fun g' hg' => by
  rcases hN g' hg' with h3 | h3
  ·exact h.tm.new g' h3
  ·exact Nat.le_trans h.kept.size h3, h1.kept⟩
 have ks : Kept [p] w2 (w2.setCell ⟨p, pre.length + 10, none⟩ (.slice ad (M.length + 1) c)) := (Kept.refl [p] w2).setCell (.inl (by simp)) _
 refine ⟨ad, c, w2, hrun, cell_list_N hb2 (by rw [List.getElem?_append_right (by omega), Nat.add_sub_cancel_left]; exact cellsR_tm h.r8), by simp [World.frozen?, hb2], ⟨?_, h.r8, h1.boxed hb2 d1 h.hp ks, h2.boxed hb2 d2 h.hp ks, h3.boxed hb2 d3 h.hp ks, h.hp⟩⟩
 rw [set_list hb2, List.set_append_right _ _ (by omega), Nat.add_sub_cancel_left]
 unfold cellsR
 rw [List.set_append_right _ _ (by rw [BI_length_N, h.r8]; omega), BI_length_N, h.r8]
 rfl
end
def Oval (o : Oc) (tv : Value) : Value := .agg #[.bool o.done, .bool o.poi, .int .i64 o.failed, .int .i64 (o.steps : Int), tv]
def IsOc (n : Nat) (w : World) (v : Value) (o : Oc) : Prop := ∃ tv, v = Oval o tv ∧ ReadsR 5 w tv (rowT o.tm) ∧ ∀ g, tv.ownBlock = some g → n ≤ g
theorem IsOc.keep {n : Nat} {w w' : World} {v : Value} {o : Oc} (h : IsOc n w v o) (k : Kept [] w w') : IsOc n w' v o := by
 obtain ⟨tv, h1, h2, h3⟩ := h
 exact ⟨tv, h1, h2.keep k, h3⟩
theorem isOc_nil {n : Nat} (w : World) (d p : Bool) (f : Int) (k : Nat) : IsOc n w (.agg #[.bool d, .bool p, .int .i64 f, .int .i64 (k : Int), .slice none 0 0]) ⟨d, p, f, k, []⟩ := ⟨_, rfl, ReadsR.nil 5 w, fun g h => by simp [Value.ownBlock] at h⟩
def PoiO (w : World) (v : Value) (ps : List Lt) : Prop := ∃ qs, OwnsR 81 4 w v (CQ qs) ∧ (∀ q ∈ qs, OwnsJ w q.sl q.x.args) ∧ qs.map (·.x) = ps
section
variable {w0 w w' : World} {v : Value} {ps : List Lt} {ts : List Nat}
theorem PoiO.turn (h : PoiO w v ps) (T : TT ts w0 w w') (h1 : (81 : Nat) ∉ ts) (h2 : (2 : Nat) ∉ ts) : PoiO w' v ps := by
 obtain ⟨S, kS, hS⟩ := T
 obtain ⟨qs, a1, a2, a3⟩ := h
 exact ⟨qs, a1.kept kS (TT.neR hS a1 h1), fun q hq => (a2 q hq).kept kS (TT.neJ hS (a2 q hq) h2), a3⟩
theorem PoiO.kept0 (h : PoiO w v ps) (k : Kept [] w w') : PoiO w' v ps := h.turn (w0 := w) (ts := []) (TT.of0 k) (by simp) (by simp)
theorem TT.one {t : Nat} {g : Nat} {cs : Array Value} (hb : w.heap[g]? = some (.cells cs t (0, 0))) (hg : w0.heap.size ≤ g) (k : Kept [g] w w') : TT [t] w0 w w' :=
 ⟨[g], k, fun x hx => by simp at hx; subst hx; exact ⟨hg, _, _, hb, by simp⟩⟩
theorem PoiO.form (h : PoiO w v ps) : ∃ a c, v = .slice a ps.length c := by
 obtain ⟨qs, a1, a2, a3⟩ := h
 obtain ⟨a, c, e, -, -⟩ := a1.form
 exact ⟨a, c, by rw [e, ← a3, CQ_length, List.length_map]⟩
theorem PoiO.at (h : PoiO w v ps) : PoiAt w v ps := by
 obtain ⟨qs, a1, a2, a3⟩ := h
 exact ⟨qs, a1.reads (CQ_wide qs), fun q hq => (a2 q hq).reads, a3⟩
theorem PoiO.of {qs : List Lq} (h : OwnL w0 w v qs) : PoiO w v (qs.map (·.x)) := ⟨qs, h.own, h.args, rfl⟩
end
def AP (w0 w : World) (p pj pi po : Nat) (a : Ac) : Prop := ∃ v, PA w0 w p pj pi po a.tries v a ∧ PoiO w v a.poi ∧ GoodP a
section
variable {w0 w w' : World} {p pj pi po : Nat} {a b : Ac} {t : Int} {v : Value}
theorem AP.kept0 (h : AP w0 w p pj pi po a) (k : Kept [] w w') : AP w0 w' p pj pi po a := by
 obtain ⟨v, h1, h2, h3⟩ := h
 exact ⟨v, h1.kept0 k, h2.kept0 k, h3⟩
theorem AP.act (h : AP w0 w p pj pi po a) : IsAct w p a := by
 obtain ⟨v, h1, h2, h3⟩ := h
 exact h1.act h2.at h3
abbrev tP : List Nat := [66, 177, 140, 168]
theorem PA.tt (h : PA w0 w p pj pi po t v a) (k : Kept [p, pj, pi, po] w w') : TT tP w0 w w' := by
 obtain ⟨h1, h2, ⟨qs, h3, h4⟩, ⟨ys, h5, h6⟩, h7, h8, h9, h10⟩ := h
 obtain ⟨cs, hb⟩ := h5.bx
 refine ⟨_, k, fun g hg => ?_⟩
 simp only [List.mem_cons, List.not_mem_nil, or_false] at hg
 rcases hg with rfl | rfl | rfl | rfl
 ·exact ⟨h7, _, _, h1, by simp⟩
 ·exact ⟨h8, _, _, h2.isP.box, by simp⟩
 ·exact ⟨h9, _, _, h3.box, by simp⟩
 ·exact ⟨h10, _, _, hb, by simp⟩
theorem PA.cells (h : PA w0 w p pj pi po t v a) : w.cell? ⟨p, 0, none⟩ = some (Ptr pj) ∧ w.cell? ⟨p, 1, none⟩ = some (Ptr pi) ∧ w.cell? ⟨p, 2, none⟩ = some (Ptr po) ∧ w.cell? ⟨p, 3, none⟩ = some (Iv t) ∧ w.cell? ⟨p, 4, none⟩ = some v := cells5 h.box
theorem PA.free (h : PA w0 w p pj pi po t v a) (i : Nat) : w.frozen? ⟨p, i, none⟩ = false := by simp [World.frozen?, h.box]
theorem PA.set3 (h : PA w0 w p pj pi po t v a) (x : Int) : PA w0 (w.setCell ⟨p, 3, none⟩ (Iv x)) p pj pi po x v a := by
 obtain ⟨h1, h2, ⟨qs, h3, h4⟩, ⟨ys, h5, h6⟩, h7, h8, h9, h10⟩ := h
 have T1 := TT.set (i := 3) h1 h7 (Iv x)
 exact ⟨set_list (L := [_, _, _, _, _]) h1, T1.isJ h2 (by decide), ⟨qs, T1.isB h3 (by decide) (by decide), h4⟩, ⟨ys, T1.isO h5 (by decide) (by decide), h6⟩, h7, h8, h9, h10⟩
theorem PA.set4 (h : PA w0 w p pj pi po t v a) (x : Value) : PA w0 (w.setCell ⟨p, 4, none⟩ x) p pj pi po t x a := by
 obtain ⟨h1, h2, ⟨qs, h3, h4⟩, ⟨ys, h5, h6⟩, h7, h8, h9, h10⟩ := h
 have T1 := TT.set (i := 4) h1 h7 x
 exact ⟨set_list (L := [_, _, _, _, _]) h1, T1.isJ h2 (by decide), ⟨qs, T1.isB h3 (by decide) (by decide), h4⟩, ⟨ys, T1.isO h5 (by decide) (by decide), h6⟩, h7, h8, h9, h10⟩
theorem PA.as (h : PA w0 w p pj pi po t v a) (e1 : b.j = a.j) (e2 : b.inb = a.inb) (e3 : b.out = a.out) : PA w0 w p pj pi po t v b := by
 obtain ⟨h1, h2, h3, h4, h5, h6, h7, h8⟩ := h
 exact ⟨h1, by rw [e1]; exact h2, by rw [e2]; exact h3, by rw [e3]; exact h4, h5, h6, h7, h8⟩
theorem PA.putI (h : PA w0 w p pj pi po t v a) {qs : List Lq} (hB : IsB w' pi qs) (k : Kept [pi] w w') : PA w0 w' p pj pi po t v ⟨a.j, qs.map (·.x), a.out, a.tries, a.poi⟩ := by
 obtain ⟨h1, h2, ⟨qs0, h3, h4⟩, ⟨ys, h5, h6⟩, h7, h8, h9, h10⟩ := h
 have T1 := TT.ofB h3 h9 k
 exact ⟨T1.box h1 (by decide), T1.isJ h2 (by decide), ⟨qs, hB, rfl⟩, ⟨ys, T1.isO h5 (by decide) (by decide), h6⟩, h7, h8, h9, h10⟩
theorem PA.putJ (h : PA w0 w p pj pi po t v a) {j : Jn} (hJ : IsJ w' pj j) (k : Kept [pj] w w') : PA w0 w' p pj pi po t v ⟨j, a.inb, a.out, a.tries, a.poi⟩ := by
 obtain ⟨h1, h2, ⟨qs, h3, h4⟩, ⟨ys, h5, h6⟩, h7, h8, h9, h10⟩ := h
 have T1 := TT.ofJ h2 h8 k
 exact ⟨T1.box h1 (by decide), hJ, ⟨qs, T1.isB h3 (by decide) (by decide), h4⟩, ⟨ys, T1.isO h5 (by decide) (by decide), h6⟩, h7, h8, h9, h10⟩
theorem PA.putO (h : PA w0 w p pj pi po t v a) {o : Ob} {ys' : List Yq} (hO : IsO w' po o.own o.K ys') (hm : ys'.map ot = o.L) (k : Kept [po] w w') : PA w0 w' p pj pi po t v ⟨a.j, a.inb, o, a.tries, a.poi⟩ := by
 obtain ⟨h1, h2, ⟨qs, h3, h4⟩, ⟨ys, h5, h6⟩, h7, h8, h9, h10⟩ := h
 have T1 := TT.ofO h5 h10 k
 exact ⟨T1.box h1 (by decide), T1.isJ h2 (by decide), ⟨qs, T1.isB h3 (by decide) (by decide), h4⟩, ⟨ys', hO, hm⟩, h7, h8, h9, h10⟩
end
def TkP (n : Nat) (w0 w : World) (p pj pi po : Nat) (r : Ac × Oc × Int) (e : Ending) (w' : World) : Prop :=
 ∃ v, e = .returned (.tuple #[v, .int .i64 r.2.2]) ∧ IsOc n w' v r.2.1 ∧ AP w0 w' p pj pi po r.1 ∧ Kept [p, pj, pi, po] w w'
set_option maxHeartbeats 4000000 in
theorem giveUp35 {w0 w : World} {n p pj pi po : Nat} {a : Ac} {x : Lt} {t : List Lt} {R : Rsl} {er : Int} (h : AP w0 w p pj pi po a) (h0 : 0 ≤ a.tries) (h2 : a.tries ≤ 2) (h8 : a.poi.length ≤ 8) (hi : a.inb = x :: t) (he : er ≠ 0) :
  Calls Tryz.prog 35 #[Ptr p, .int .i64 er, .int .i64 (R.k : Int)] w (TkP n w0 w p pj pi po (takeR a x t R er)) := by
 have HT : Hid (takeR a x t R er = if a.tries + 1 < 3 then (⟨a.j, a.inb, a.out, a.tries + 1, a.poi⟩, ⟨false, false, er, R.k, []⟩, 0) else if a.poi.length = 8 then (a, ocN, 8) else (⟨a.j, t, a.out, 0, a.poi ++ [x]⟩, ⟨false, true, er, R.k, []⟩, 0)) := Hid.mk (by unfold takeR; rw [if_neg he])
 generalize takeR a x t R er = TR at *
 obtain ⟨v, hpa, hpo, hg⟩ := h
 obtain ⟨W0, e0, k0, hz0, hb0⟩ := box1 w (.cells #[.bool false, .bool false, .int .i64 0, .int .i64 0, .slice none 0 0] 39)
 have hpa0 := hpa.kept0 k0
 have hpo0 := hpo.kept0 k0
 have hpl := lt_of_block hpa.box
 have HP := Hid.mk hpa0
 have HPO := Hid.mk hpo0
 have HG := Hid.mk hg
 have HK := Hid.mk k0
 obtain ⟨d0, d1, d2, d3, d4⟩ := hpa0.cells
 obtain ⟨f0, f1, f2, f3, f4⟩ := free5 hb0
 obtain ⟨c0, c1, c2, c3, c4⟩ := cells5 hb0
 have z3 := hpa0.free 3
 generalize hk : R.k = rk at *
 by_cases ht : a.tries + 1 < 3
 ·rw [if_pos ht] at HT
  have hp3 := hpa0.set3 (a.tries + 1)
  have hb1 : (W0.setCell ⟨p, 3, none⟩ (Iv (a.tries + 1))).heap[w.heap.size]? = some (.cells #[.bool false, .bool false, .int .i64 0, .int .i64 0, .slice none 0 0] 39 (0, 0)) := by
   have k1 : Kept [p] W0 (W0.setCell ⟨p, 3, none⟩ (Iv (a.tries + 1))) := (Kept.refl [p] W0).setCell (p := ⟨p, 3, none⟩) (.inl (by simp)) _
   exact k1.keeps hb0 (by simp; omega)
  obtain ⟨g0, g1, g2, g3, g4⟩ := free5 hb1
  obtain ⟨b0, b1, b2, b3, b4⟩ := cells5 hb1
  have hs0 : w0.heap.size ≤ w.heap.size := by have := hpa.hp; omega
  clear hpa hpo hg k0 hpa0 hpo0
  go_enter Tryz.func35, Tryz.ntmps35
  go_wp2_with fail
  obtain ⟨W8, e8, k8, h8, -⟩ := put5 hb1 (.bool false) (.bool false) (.int .i64 er) (.int .i64 (rk : Int)) (.slice none 0 0)
  rw [e8]
  refine bodyPost_ret (results_cell_row2 (p := 6) (u := 7) (ty := 39) rfl _ _ w.heap.size 39 _ (0, 0) _ rfl h8 Tryz.underlying39 rfl (by kernel_rfl) _ rfl) rfl ?_
  rw [HT.out]
  have T1 := TT.set (i := 3) HP.out.box HP.out.hp (Iv (a.tries + 1))
  have T2 := TT.one hb1 hs0 k8
  have hp8 := hp3.turn T2 (by decide)
  have hv8 := (HPO.out.turn T1 (by decide) (by decide)).turn T2 (by decide) (by decide)
  have g := HG.out
  refine ⟨_, rfl, isOc_nil _ _ _ _ _, ⟨v, hp8.as rfl rfl rfl, hv8, ⟨g.j, g.i8, g.inb, g.out, g.poi⟩⟩, ?_⟩
  exact ((HK.out.mono (by simp)).setCell (p := ⟨p, 3, none⟩) (.inl (by simp)) _).trans k8 (fun x hx => .inr (by simp at hx; omega))
 ·rw [if_neg ht] at HT
  obtain ⟨av, cv, rfl⟩ := hpo.form
  generalize hM : a.poi.length = m at *
  have HM := Hid.mk hM
  have ht' : (a.tries + 1 < 3) = False := eq_false ht
  have hs0 : w0.heap.size ≤ w.heap.size := by have := hpa.hp; omega
  by_cases hm : m = 8
  ·rw [if_pos hm] at HT
   subst hm
   clear hpa hpo hg k0 hpa0 hpo0
   go_enter Tryz.func35, Tryz.ntmps35
   go_wp2_with fail
   obtain ⟨W8, e8, k8, h8, -⟩ := put5 hb0 (.bool false) (.bool false) (.int .i64 0) (.int .i64 0) (.slice none 0 0)
   rw [e8]
   refine bodyPost_ret (results_cell_row2 (p := 6) (u := 7) (ty := 39) rfl _ _ w.heap.size 39 _ (0, 0) _ rfl h8 Tryz.underlying39 rfl (by kernel_rfl) _ rfl) rfl ?_
   rw [HT.out]
   have T2 := TT.one hb0 hs0 k8
   exact ⟨_, rfl, isOc_nil _ _ _ _ 0, ⟨_, HP.out.turn T2 (by decide), HPO.out.turn T2 (by decide) (by decide), HG.out⟩, (HK.out.mono (by simp)).trans k8 (fun x hx => .inr (by simp at hx; omega))⟩
  ·rw [if_neg hm] at HT
   have hmI : ((m : Int) == 8) = false := by simp; omega
   obtain ⟨q, qt, hB, rfl, rfl⟩ : ∃ q qt, IsB W0 pi (q :: qt) ∧ q.x = x ∧ qt.map (·.x) = t := by
    obtain ⟨qs, h1, h2⟩ := hpa0.i
    rw [hi] at h2
    match qs, h2 with
    | q :: qt, h2 => simp only [List.map_cons, List.cons.injEq] at h2; exact ⟨q, qt, h1, h2.1, h2.2⟩
   have hpil : pi < w.heap.size := lt_of_block hpa.i.choose_spec.1.box
   have HC := Hid.mk (pop13_some hB)
   clear hpa hpo hg k0 hpa0 hpo0 hB
   go_enter Tryz.func35, Tryz.ntmps35
   go_wp2_with fail
   refine HC.out.mono ?_
   rintro e w1 ⟨a1, c1, rfl, hJ1, k1, hf1, hB1⟩
   clear HC
   obtain ⟨W2, e2, k2, hz2, hb2⟩ := box1 w1 (.cells #[Sv q.x.fr, .int .u64 (q.x.ser : Int), .int .i64 q.x.kind, .slice a1 q.x.args.length c1] 81)
   have hp2 := ((HP.out.putI hB1 k1).kept0 k2).kept0 (Kept.refl [] W2).drew
   have T1 := TT.ofB HP.out.i.choose_spec.1 HP.out.hi k1
   have hv2 := ((HPO.out.turn T1 (by decide) (by decide)).kept0 k2).kept0 (Kept.refl [] W2).drew
   have hb2' : W2.drew.heap[w1.heap.size]? = some (.cells #[Sv q.x.fr, .int .u64 (q.x.ser : Int), .int .i64 q.x.kind, .slice a1 q.x.args.length c1] 81 (0, 0)) := hb2
   have hJ2 := (hJ1.kept k2 (by simp)).kept (Kept.refl [] W2).drew (by simp)
   obtain ⟨ms, hv2a, hv2b, hv2c⟩ := hv2
   have hml : ms.length = m := by rw [← HM.out, ← hv2c, List.length_map]
   obtain ⟨l0, l1, l2, l3⟩ := cells4 hb2'
   obtain ⟨d0, d1, d2, d3, d4⟩ := hp2.cells
   have HC : Hid (∀ W, W = (W2.drew.alloc (.cells #[Sv q.x.fr, .int .u64 (q.x.ser : Int), .int .i64 q.x.kind, .slice a1 q.x.args.length c1] 81)).alloc (.cells #[.slice av m cv, .slice (some ⟨W2.heap.size, 0, none⟩) 1 1] 26) →
     Calls Tryz.prog 96 #[.slice (some ⟨W2.heap.size + 1, 0, none⟩) 2 2] W fun e w' => ∃ a4 c4, e = .returned (.slice a4 (m + 1) c4) ∧ OwnsR 81 4 w' (.slice a4 (m + 1) c4) (CQ (ms ++ [⟨q.x, a1, c1⟩])) ∧ Fresh W (.slice a4 (m + 1) c4) ∧ Kept [] W w') := Hid.mk fun W hW => by
    obtain ⟨W3, e3, k3, hz3, hb3⟩ := box1 W2.drew (.cells #[Sv q.x.fr, .int .u64 (q.x.ser : Int), .int .i64 q.x.kind, .slice a1 q.x.args.length c1] 81)
    obtain ⟨W4, e4, k4, hz4, hb4⟩ := box1 W3 (.cells #[.slice av m cv, .slice (some ⟨W2.heap.size, 0, none⟩) 1 1] 26)
    rw [e3, e4] at hW
    subst hW
    have hz : W3.heap.size = W2.heap.size + 1 := hz3
    have hb3' := k4.keeps hb3 (by simp)
    have hrow : ReadsR 1 W (.slice (some ⟨W2.heap.size + 1, 0, none⟩) 2 2) ([((.slice av m cv : Value), ms), (.slice (some ⟨W2.heap.size, 0, none⟩) 1 1, [⟨q.x, a1, c1⟩])].map fun x => [x.1]) := by
     refine ⟨_, 2, rfl, by simp, by unfold maxLen; omega, by simp, fun _ => ⟨_, 0, rfl, fun j r hj i x hx => ?_⟩⟩
     rw [hz] at hb4
     obtain ⟨b0, b1⟩ := cell_of_two hb4
     match j, hj with
     | 0, hj => simp at hj; subst hj; match i, hx with | 0, hx => simp at hx; subst hx; exact b0
     | 1, hj => simp at hj; subst hj; match i, hx with | 0, hx => simp at hx; subst hx; exact b1
    refine (concat96 _ 2 2 [((.slice av m cv : Value), ms), (.slice (some ⟨W2.heap.size, 0, none⟩) 1 1, [⟨q.x, a1, c1⟩])] (Hid.mk rfl) hrow (Hid.mk fun y hy => ?_) (by omega) (Hid.mk ?_)).mono ?_
    ·simp at hy
     rcases hy with rfl | rfl
     ·exact ⟨(hv2a.kept (k3.trans k4 (by simp)) (by simp)).reads (CQ_wide _), rfl⟩
     ·refine ⟨⟨_, 1, rfl, by simp [CQ], by unfold maxLen; omega, by simp, fun _ => ⟨_, 0, rfl, fun j r hj i x hx => ?_⟩⟩, rfl⟩
      obtain ⟨b0, b1, b2, b3⟩ := cells4 hb3'
      match j, hj with
      | 0, hj =>
       simp [CQ, cellsQ] at hj; subst hj
       match i, hx with
       | 0, hx => simp at hx; subst hx; exact b0
       | 1, hx => simp at hx; subst hx; exact b1
       | 2, hx => simp at hx; subst hx; exact b2
       | 3, hx => simp at hx; subst hx; exact b3
    ·simp [lens]; omega
    ·rintro e w5 ⟨v5, rfl, h1, h2, h3⟩
     have h1' : OwnsR 81 4 w5 v5 (CQ (ms ++ [⟨q.x, a1, c1⟩])) := by simpa [cats] using h1
     obtain ⟨a5, c5, rfl, -, -⟩ := h1'.form
     rw [show (CQ (ms ++ [⟨q.x, a1, c1⟩])).length = m + 1 by rw [CQ_length]; simp [hml]] at h1' h2 ⊢
     exact ⟨_, _, rfl, h1', h2, h3⟩
   have HP2 := Hid.mk hp2
   have HJ2 := Hid.mk (And.intro hJ2 (And.intro hv2b hv2c))
   have KW : Hid (Kept [pi] W0 W2.drew) := Hid.mk ((k1.trans k2 (by simp)).drew)
   have hgl : w.heap.size < W2.heap.size := by have := KW.out.size; have : W2.drew.heap.size = W2.heap.size := rfl; omega
   have HB2 := Hid.mk (KW.out.keeps hb0 (by simp; omega))
   clear hp2 hv2a hv2b hv2c hJ2 hb2 hb2' k1 k2 hJ1 hf1 hB1 T1 hz2
   go_wp2_with fail
   have HS : Hid (∀ W, Kept [] W2.drew W → W.cell? ⟨p, 4, none⟩ = some (.slice av m cv) ∧ W.cell? ⟨w1.heap.size, 0, none⟩ = some (Sv q.x.fr) ∧ W.cell? ⟨w1.heap.size, 1, none⟩ = some (.int .u64 (q.x.ser : Int)) ∧ W.cell? ⟨w1.heap.size, 2, none⟩ = some (.int .i64 q.x.kind) ∧ W.cell? ⟨w1.heap.size, 3, none⟩ = some (.slice a1 q.x.args.length c1)) := Hid.mk fun W k => by
    obtain ⟨-, -, -, -, i4⟩ := (HP2.out.kept0 k).cells
    exact ⟨i4, k.cell_eq l0, k.cell_eq l1, k.cell_eq l2, k.cell_eq l3⟩
   have S0 := HS.out _ (Kept.refl [] _)
   have S1 := (HS.out _ ((Kept.refl [] W2.drew).alloc (.cells #[Sv q.x.fr, .int .u64 (q.x.ser : Int), .int .i64 q.x.kind, .slice a1 q.x.args.length c1] 81))).1
   have S2 : (W2.alloc (.cells #[Sv q.x.fr, .int .u64 (q.x.ser : Int), .int .i64 q.x.kind, .slice a1 q.x.args.length c1] 81)).drew.cell? ⟨p, 4, none⟩ = some (.slice av m cv) := S1
   clear d0 d1 d2 d3 S0
   go_region_law (go_simp; go_at_call 96; refine (HC.out _ rfl).mono ?_; rintro e w4 ⟨a4, c4, rfl, hO4, hf4, k4⟩; have K4 : Hid (Kept [] W2.drew w4) := Hid.mk ((((Kept.refl [] W2.drew).alloc _).alloc _).trans k4 (by simp)); have p4 := HP2.out.kept0 K4.out; have z4 := p4.free 4; obtain ⟨i0, i1, i2, i3, i4⟩ := p4.cells; have HO4 := Hid.mk hO4; clear hO4 k4 hf4 p4)
   all_goals
    clear S1 S2 d4 l0 l1 l2 l3 HC HS
    have hp4 := HP2.out.kept0 K4.out
    have hp5 := hp4.set4 (.slice a4 (m + 1) c4)
    have z5 := hp5.free 3
    obtain ⟨-, -, -, j3, -⟩ := hp5.cells
    have T4 := TT.set (i := 4) hp4.box hp4.hp (.slice a4 (m + 1) c4)
    have hp6 := hp5.set3 0
    have T5 := TT.set (i := 3) hp5.box hp5.hp (Iv 0)
    have KS : Hid (Kept [p] w4 ((w4.setCell ⟨p, 4, none⟩ (.slice a4 (m + 1) c4)).setCell ⟨p, 3, none⟩ (Iv 0))) := Hid.mk (((Kept.refl [p] w4).setCell (p := ⟨p, 4, none⟩) (.inl (by simp)) _).setCell (p := ⟨p, 3, none⟩) (.inl (by simp)) _)
    have hb6 := KS.out.keeps (K4.out.keeps HB2.out (by simp)) (by simp; omega)
    obtain ⟨g0, g1, g2, g3, g4⟩ := free5 hb6
    obtain ⟨y0, y1, y2, y3, y4⟩ := cells5 hb6
    have H6 := Hid.mk (And.intro hp6 (And.intro T4 (And.intro T5 hb6)))
    clear hp4 hp5 hp6 T4 T5 hb6 i0 i1 i2 i4 z4
    go_wp2_with fail
    obtain ⟨W8, e8, k8, h8, -⟩ := put5 H6.out.2.2.2 (.bool false) (.bool true) (.int .i64 er) (.int .i64 (rk : Int)) (.slice none 0 0)
    rw [e8]
    refine bodyPost_ret (results_cell_row2 (p := 6) (u := 7) (ty := 39) rfl _ _ w.heap.size 39 _ (0, 0) _ rfl h8 Tryz.underlying39 rfl (by kernel_rfl) _ rfl) rfl ?_
    rw [HT.out]
    obtain ⟨hp6, T4, T5, hb6⟩ := H6.out
    have T8 := TT.one hb6 hs0 k8
    have hp8 := hp6.turn T8 (by decide)
    have g := HG.out
    have hx := g.inb q.x (by rw [hi]; simp)
    have hJ4 : PoiO w4 (.slice a4 (m + 1) c4) (a.poi ++ [q.x]) := ⟨ms ++ [⟨q.x, a1, c1⟩], HO4.out, fun y hy => by
     rcases List.mem_append.1 hy with h | h
     ·exact (HJ2.out.2.1 y h).kept K4.out (by simp)
     ·simp at h; subst h; exact HJ2.out.1.kept K4.out (by simp), by rw [List.map_append, HJ2.out.2.2]; rfl⟩
    have hv8 := ((hJ4.turn T4 (by decide) (by decide)).turn T5 (by decide) (by decide)).turn T8 (by decide) (by decide)
    refine ⟨_, rfl, isOc_nil _ _ _ _ _, ⟨_, hp8.as rfl rfl rfl, hv8, ⟨g.j, ?_, fun y hy => g.inb y (by rw [hi]; simp [hy]), g.out, fun y hy => ?_⟩⟩, ?_⟩
    ·have := g.i8; rw [hi, List.length_cons] at this; exact Nat.le_of_succ_le this
    ·rcases List.mem_append.1 hy with h | h
     ·exact g.poi y h
     ·simp at h; subst h; exact hx.1
    ·exact ((((HK.out.mono (by simp)).trans KW.out (by simp)).trans K4.out (by simp)).trans KS.out (by simp)).trans k8 (fun x hx => .inr (by simp at hx; omega))
end Go.Proofs.YtngnenbidpojeaaGreatDoor
