import Derived.Deep.QuietTactic
import Derived.BigQuiet
import Derived.Deep.RegionHeld3
import Derived.Deep.RegionLaw
import Derived.Deep.DrawnRows
import Derived.Test.YtngnenbidpojeaaDoorW20
import Derived.Test.YtngnenbidpojeaaDoorW21
import Derived.Test.YtngnenbidpojeaaDoorW23
/-
  Programs in memory: rows of names and rows of instructions.
-/
namespace Go.Proofs.YtngnenbidpojeaaDoor
open Go.RowKit
set_option maxRecDepth 100000
def rowN (N : List (List UInt8)) : List (List Value) := N.map fun s => [.string ⟨s.toArray⟩]
def rowI (C : List In) : List (List Value) := C.map fun x => [.int .i64 x.op, .int .i64 x.arg]
theorem rowN_length (N : List (List UInt8)) : (rowN N).length = N.length := by simp [rowN]
theorem rowI_length (C : List In) : (rowI C).length = C.length := by simp [rowI]
theorem wideN (N : List (List UInt8)) : Wide 1 (rowN N) := fun r hr => by
  obtain ⟨s, -, rfl⟩ := List.mem_map.1 hr
  exact ⟨rfl, fun u hu => by simp at hu; subst hu; rfl⟩
theorem wideI (C : List In) : Wide 2 (rowI C) := fun r hr => by
  obtain ⟨s, -, rfl⟩ := List.mem_map.1 hr
  exact ⟨rfl, fun u hu => by simp at hu; rcases hu with rfl | rfl <;> rfl⟩
/-- A program in memory: its names' row and its instructions'. -/
structure IsP_N (w : World) (v u : Value) (p : Pg) : Prop where
  names : ReadsR 1 w v (rowN p.names)
  code : ReadsR 2 w u (rowI p.code)
theorem ReadsR.keep {k : Nat} {w w' : World} {v : Value} {rs : List (List Value)} (h : ReadsR k w v rs) (kk : Kept [] w w') : ReadsR k w' v rs := h.kept kk (by simp)
theorem IsP_N.keep {w w' : World} {v u : Value} {p : Pg} (h : IsP_N w v u p) (k : Kept [] w w') : IsP_N w' v u p := ⟨h.names.keep k, h.code.keep k⟩
theorem IsP_N.form {w : World} {v u : Value} {p : Pg} (h : IsP_N w v u p) : ∃ a c b d, v = .slice a p.names.length c ∧ u = .slice b p.code.length d ∧ p.names.length ≤ 9223372036854775807 ∧ p.code.length ≤ 9223372036854775807 := by
  obtain ⟨a, c, e, h1, h2⟩ := h.names.form
  obtain ⟨b, d, e', h1', h2'⟩ := h.code.form
  rw [rowN_length] at e h1
  rw [rowI_length] at e' h1'
  exact ⟨a, c, b, d, e, e', by omega, by omega⟩
/-- The cell of a name. -/
theorem names_at {w : World} {a : Option Addr} {n c : Nat} {N : List (List UInt8)} (h : ReadsR 1 w (.slice a n c) (rowN N)) {j : Nat} (hj : j < N.length) : ∃ b o, a = some ⟨b, o, none⟩ ∧ w.cell? ⟨b, o + j, none⟩ = some (.string ⟨N[j].toArray⟩) := by
  obtain ⟨b, o, c', e, hc⟩ := h.at j [.string ⟨N[j].toArray⟩] (by simp [rowN, hj])
  simp only [Value.slice.injEq] at e
  refine ⟨b, o, e.1, ?_⟩
  have := hc 0 _ rfl
  simpa using this
/-- The cells of an instruction. -/
theorem code_at {w : World} {a : Option Addr} {n c : Nat} {C : List In} (h : ReadsR 2 w (.slice a n c) (rowI C)) {j : Nat} (hj : j < C.length) : ∃ b o, a = some ⟨b, o, none⟩ ∧ w.cell? ⟨b, o + j * 2, none⟩ = some (.int .i64 C[j].op) ∧ w.cell? ⟨b, o + j * 2 + 1, none⟩ = some (.int .i64 C[j].arg) := by
  obtain ⟨b, o, c', e, hc⟩ := h.at j [.int .i64 C[j].op, .int .i64 C[j].arg] (by simp [rowI, hj])
  simp only [Value.slice.injEq] at e
  exact ⟨b, o, e.1, hc 0 _ rfl, hc 1 _ rfl⟩
/-- Where an operation's row lies. -/
theorem op_at {w : World} (h : Glob w) {i : Nat} (hi : i < 24) : ∃ s k, words[i]? = some (s, k) ∧ k ≤ 5 ∧ w.cell? ⟨0, 2 * i, none⟩ = some (.string ⟨s.toArray⟩) ∧ w.cell? ⟨0, 2 * i + 1, none⟩ = some (.int .i64 (k : Int)) := by
  have hl : i < words.length := hi
  have e : words[i]? = some (words[i].1, words[i].2) := by rw [List.getElem?_eq_getElem hl]
  have hk : ∀ x ∈ words, x.2 ≤ 5 := by decide
  exact ⟨_, _, e, hk _ (List.getElem_mem hl), h.ops i _ _ e⟩
/-- How many integers may stand there. -/
def choiceN (nn nc k : Nat) : Int := if k = 2 then 8 else if k = 3 then 4 else if k = 4 then (nc : Int) + 1 else if k = 5 then (nn : Int) else 1
theorem choice_most {nn nc k : Nat} (hk : k ≤ 5) (h1 : k ≠ 1) : choiceN nn nc k = mostI nn nc k + 1 := by
  unfold choiceN mostI
  match k, hk, h1 with
  | 0, _, _ => rfl
  | 2, _, _ => rfl
  | 3, _, _ => rfl
  | 4, _, _ => rfl
  | 5, _, _ => simp
theorem okI_at {nn nc i k : Nat} {s : List UInt8} {x : In} (ho : x.op = (i : Int)) (h : words[i]? = some (s, k)) (hk : k ≤ 5) : okI nn nc x = (decide (k = 1) || (decide (0 ≤ x.arg) && decide (x.arg < choiceN nn nc k))) := by
  unfold okI
  rw [ho, Int.toNat_natCast, h]
  dsimp only
  rw [show decide (0 ≤ (i : Int)) = true by simp, Bool.true_and]
  by_cases h1 : k = 1
  · subst h1; rfl
  · rw [choice_most hk h1]
    congr 2
    simp
    omega
theorem okI_out {nn nc : Nat} {x : In} (h : x.op < 0 ∨ 24 ≤ x.op) : okI nn nc x = false := by
  unfold okI
  rcases h with h | h
  · split
    · simp; omega
    · rfl
  · rw [List.getElem?_eq_none (by rw [words_length]; omega)]
end Go.Proofs.YtngnenbidpojeaaDoor
/-
  Drawn regions whose calls only make memory: the quiet walk over the worlds that kept all of another.
-/
namespace Go.Proofs.YtngnenbidpojeaaDoor
open Go.RowKit
set_option maxRecDepth 100000
theorem Kept.then {a b c : World} (h : Kept [] a b) (k : Kept [] b c) : Kept [] a c := h.trans k (by simp)
end Go.Proofs.YtngnenbidpojeaaDoor
/-
  Rows that grow by append, and a program that is built of two of them.
-/
namespace Go.Proofs.YtngnenbidpojeaaDoor
open Go.RowKit
set_option maxRecDepth 100000
set_option linter.unusedVariables false
/-- A row that grows, new since w; nothing elder was turned. -/
structure Out (e : TypeId) (k : Nat) (w wr : World) (u : Value) (rs : List (List Value)) : Prop where
  own : OwnsR e k wr u rs
  new : ∀ g, u.ownBlock = some g → w.heap.size ≤ g
  kept : Kept [] w wr
section
variable {T e : TypeId} {k b : Nat} {z : Value} {w wr w2 : World} {u : Value} {rs : List (List Value)}
theorem Out.nil (h : Kept [] w wr) : Out e k w wr (.slice none 0 0) [] := ⟨OwnsR.nil e k wr, fun g hg => by simp [Value.ownBlock] at hg, h⟩
theorem Out.keep (h : Out e k w wr u rs) (k2 : Kept [] wr w2) : Out e k w w2 u rs := ⟨h.own.kept k2 (by simp), h.new, h.kept.then k2⟩
theorem Out.form (h : Out e k w wr u rs) : ∃ a c, u = .slice a rs.length c ∧ rs.length ≤ c ∧ c ≤ 9223372036854775807 := h.own.form
theorem Out.more (R : RowT T e k b z) (h : Out e k w wr u rs) (cs : List Value) (hc : cs.length = k) (h1 : ∀ x ∈ cs, x.oneCell' = true) (hl : rs.length ≤ 900000) (t : TypeId) (fr : Nat × Nat) (ty : TypeId) :
    ∃ ad c w2, (Builtin.append_ #[T, T] ty #[u, .slice (some ⟨wr.heap.size, 0, none⟩) 1 1]).run Tryd.prog (wr.alloc (.cells cs.toArray t fr)) = .ok (.slice ad (rs.length + 1) c) w2 ∧ Out e k w w2 (.slice ad (rs.length + 1) c) (rs ++ [cs]) := by
  obtain ⟨ad, c, w2, hrun, hO, k2, hN⟩ := append_rowR R h.own cs hc h1 hl t fr ty
  refine ⟨ad, c, w2, hrun, hO, fun g hg => ?_, h.kept.trans k2 (fun x hx => .inr (h.new x (by simpa using hx)))⟩
  rcases hN g hg with h3 | h3
  · exact h.new g h3
  · exact Nat.le_trans h.kept.size h3
end
/-- A program that is built: the box g, of type T, and its two rows; all new since w. -/
structure PB (T e : TypeId) (w wr : World) (g : Nat) (v u : Value) (p : Pg) : Prop where
  box : wr.heap[g]? = some (.cells #[v, u] T (0, 0))
  names : Out 9 1 w wr v (rowN p.names)
  code : Out e 2 w wr u (rowI p.code)
  hg : w.heap.size ≤ g
section
variable {T e : TypeId} {w wr w2 : World} {g : Nat} {v u : Value} {p : Pg}
theorem PB.kept (h : PB T e w wr g v u p) : Kept [] w wr := h.names.kept
theorem PB.keep (h : PB T e w wr g v u p) (k : Kept [] wr w2) : PB T e w w2 g v u p := ⟨k.keeps h.box (by simp), h.names.keep k, h.code.keep k, h.hg⟩
theorem PB.c0 (h : PB T e w wr g v u p) : wr.cell? ⟨g, 0, none⟩ = some v := by simp [World.cell?, h.box]
theorem PB.c1 (h : PB T e w wr g v u p) : wr.cell? ⟨g, 1, none⟩ = some u := by simp [World.cell?, h.box]
theorem PB.f0 (h : PB T e w wr g v u p) : wr.frozen? ⟨g, 0, none⟩ = false := by simp [World.frozen?, h.box]
theorem PB.f1 (h : PB T e w wr g v u p) : wr.frozen? ⟨g, 1, none⟩ = false := by simp [World.frozen?, h.box]
theorem PB.isP (h : PB T e w wr g v u p) : IsP_N wr v u p := ⟨h.names.own.reads (wideN _), h.code.own.reads (wideI _)⟩
theorem PB.start (k : Kept [] w wr) (hb : wr.heap[g]? = some (.cells #[.slice none 0 0, .slice none 0 0] T (0, 0))) (hg : w.heap.size ≤ g) : PB T e w wr g (.slice none 0 0) (.slice none 0 0) ⟨[], []⟩ :=
  ⟨hb, Out.nil k, Out.nil k, hg⟩
end
end Go.Proofs.YtngnenbidpojeaaDoor
/-
  Blocks of two cells; a struct and two values as results.
-/
namespace Go.Proofs.YtngnenbidpojeaaDoor
open Go.RowKit
set_option linter.unusedVariables false
section
variable {w : World} {b : Nat} {v0 v1 x0 x1 : Value} {t : TypeId}
theorem cells2_N (h : w.heap[b]? = some (.cells #[v0, v1] t (0, 0))) : w.cell? ⟨b, 0, none⟩ = some v0 ∧ w.cell? ⟨b, 1, none⟩ = some v1 := by simp [World.cell?, h]
end
section
variable {P : Program}
end
end Go.Proofs.YtngnenbidpojeaaDoor
/-
  Theirs: a program laid anew.
-/
namespace Go.Proofs.YtngnenbidpojeaaDoor
open Go.RowKit
set_option maxRecDepth 100000
set_option linter.unusedVariables false
theorem Out.all {T e : TypeId} {k b : Nat} {z : Value} {w wr : World} {u : Value} {rs : List (List Value)} (R : RowT T e k b z) (h : Out e k w wr u rs) (x : Value) (m : List (List Value)) (hm : Wide k m) (hr : ReadsR k wr x m) (hl : rs.length + m.length ≤ 1000000) (ty : TypeId) :
    ∃ ad c w2, (Builtin.append_ #[T, T] ty #[u, x]).run Tryd.prog wr = .ok (.slice ad (rs.length + m.length) c) w2 ∧ Out e k w w2 (.slice ad (rs.length + m.length) c) (rs ++ m) := by
  obtain ⟨ad, c, w2, hrun, hO, hg, hN⟩ := run_appendR R wr ty u rs h.own x m hm hr hl
  have k2 : Kept u.ownBlock.toList wr w2 := ((Kept.refl [] wr).mono (by simp)).grown hg (fun x hx => .inl (by rw [Option.mem_toList]; exact hx))
  refine ⟨ad, c, w2, hrun, hO, fun g hg => ?_, h.kept.trans k2 (fun x hx => .inr (h.new x (by simpa using hx)))⟩
  rcases hN g hg with h3 | h3
  · exact h.new g h3
  · exact Nat.le_trans h.kept.size h3
section
variable {w : World}
end
end Go.Proofs.YtngnenbidpojeaaDoor
/-
  What has come of a run, in memory: eight registers, three rows that grow and the steps, behind whatever stands ahead of them in the block. Over any types.
-/
namespace Go.Proofs.YtngnenbidpojeaaDoor
open Go.RowKit
set_option maxRecDepth 100000
set_option linter.unusedVariables false
abbrev Iv_N (z : Int) : Value := .int .i64 z
def BI_N (l : List Int) : List Value := l.map fun z => .int .i64 z
theorem BI_length_N (l : List Int) : (BI_N l).length = l.length := by simp [BI_N]
theorem BI_get_N {l : List Int} {i : Nat} {x : Int} (h : l[i]? = some x) : (BI_N l)[i]? = some (Iv_N x) := by simp [BI_N, h]
theorem BI_set_N (l : List Int) (i : Nat) (x : Int) : (BI_N l).set i (Iv_N x) = BI_N (l.set i x) := by simp [BI_N, List.map_set]
theorem BI_one_N (l : List Int) : ∀ v ∈ BI_N l, v.oneCell' = true := fun v hv => by
  obtain ⟨z, -, rfl⟩ := List.mem_map.1 hv
  rfl
def rowJ (l : List Int) : List (List Value) := l.map fun z => [.int .i64 z]
def rowE (l : List Ev) : List (List Value) := l.map fun e => [.int .i64 (e.r : Int), .int .i64 e.v]
def rowS (l : List Sn) : List (List Value) := l.map fun e => [.string ⟨e.to.toArray⟩, .int .i64 e.kind, .int .i64 e.arg]
def rowT (l : List Tm) : List (List Value) := l.map fun e => [.string ⟨e.nm.toArray⟩, .bool e.can, .int .i64 e.due, .int .i64 e.per, .int .i64 e.kind]
theorem rowJ_length (l : List Int) : (rowJ l).length = l.length := by simp [rowJ]
theorem rowE_length (l : List Ev) : (rowE l).length = l.length := by simp [rowE]
theorem rowS_length (l : List Sn) : (rowS l).length = l.length := by simp [rowS]
theorem rowT_length (l : List Tm) : (rowT l).length = l.length := by simp [rowT]
theorem wideE (l : List Ev) : Wide 2 (rowE l) := fun r hr => by
  obtain ⟨s, -, rfl⟩ := List.mem_map.1 hr
  exact ⟨rfl, fun u hu => by simp at hu; rcases hu with rfl | rfl <;> rfl⟩
theorem wideS (l : List Sn) : Wide 3 (rowS l) := fun r hr => by
  obtain ⟨s, -, rfl⟩ := List.mem_map.1 hr
  exact ⟨rfl, fun u hu => by simp at hu; rcases hu with rfl | rfl | rfl <;> rfl⟩
theorem wideT (l : List Tm) : Wide 5 (rowT l) := fun r hr => by
  obtain ⟨s, -, rfl⟩ := List.mem_map.1 hr
  exact ⟨rfl, fun u hu => by simp at hu; rcases hu with rfl | rfl | rfl | rfl | rfl <;> rfl⟩
theorem cell_list_N {w : World} {p : Nat} {L : List Value} {t : TypeId} {fz : Nat × Nat} (h : w.heap[p]? = some (.cells L.toArray t fz)) {i : Nat} {x : Value} (hi : L[i]? = some x) : w.cell? ⟨p, i, none⟩ = some x := by
  simp [World.cell?, h, hi]
section
variable {e e' T : TypeId} {k k' : Nat} {w wr w2 : World} {u u' : Value} {rs rs' : List (List Value)}
/-- Another row was turned. -/
theorem Out.besides (h : Out e k w wr u rs) (h' : Out e' k' w wr u' rs') (hne : e ≠ e') (k2 : Kept u'.ownBlock.toList wr w2) : Out e k w w2 u rs :=
  ⟨h.own.kept k2 (fun g' hg' hm => own_apart h.own h'.own hne hg' (by simpa using hm)), h.new, h.kept.trans k2 (fun x hx => .inr (h'.new x (by simpa using hx)))⟩
/-- A box of another type was turned. -/
theorem Out.boxed {g : Nat} {cs : Array Value} {fz : Nat × Nat} (h : Out e k w wr u rs) (hb : wr.heap[g]? = some (.cells cs T fz)) (hT : T ≠ e) (hg : w.heap.size ≤ g) (k2 : Kept [g] wr w2) : Out e k w w2 u rs :=
  ⟨h.own.kept k2 (fun g' hg' hm => by simp at hm; subst hm; exact ownsR_ne h.own hb hT hg'), h.new, h.kept.trans k2 (fun x hx => .inr (by simp at hx; subst hx; exact hg))⟩
end
/-- The types of the block and of the rows' members. -/
structure Ty where
  T : TypeId
  e1 : TypeId
  e2 : TypeId
  e3 : TypeId
/-- They are four. -/
def Ty.Ok (t : Ty) : Prop := t.T ≠ t.e1 ∧ t.T ≠ t.e2 ∧ t.T ≠ t.e3 ∧ t.e1 ≠ t.e2 ∧ t.e1 ≠ t.e3 ∧ t.e2 ≠ t.e3
/-- What came of a run. -/
def cellsR (reg : List Int) (ev sn tm : Value) (k : Nat) : List Value := BI_N reg ++ [ev, sn, tm, .int .i64 (k : Int)]
theorem cellsR_length (reg : List Int) (ev sn tm : Value) (k : Nat) : (cellsR reg ev sn tm k).length = reg.length + 4 := by simp [cellsR, BI_length_N]
structure RS (t : Ty) (w0 w : World) (p : Nat) (pre : List Value) (reg : List Int) (E : List Ev) (S : List Sn) (M : List Tm) (k : Nat) (ev sn tm : Value) : Prop where
  box : w.heap[p]? = some (.cells (pre ++ cellsR reg ev sn tm k).toArray t.T (0, 0))
  r8 : reg.length = 8
  ev : Out t.e1 2 w0 w ev (rowE E)
  sn : Out t.e2 3 w0 w sn (rowS S)
  tm : Out t.e3 5 w0 w tm (rowT M)
  hp : w0.heap.size ≤ p
section
variable {t : Ty} {w0 w w' : World} {p : Nat} {pre : List Value} {reg : List Int} {E : List Ev} {S : List Sn} {M : List Tm} {k : Nat} {ev sn tm : Value}
theorem RS.kept (h : RS t w0 w p pre reg E S M k ev sn tm) : Kept [] w0 w := h.ev.kept
theorem RS.keep (h : RS t w0 w p pre reg E S M k ev sn tm) (kk : Kept [] w w') : RS t w0 w' p pre reg E S M k ev sn tm := ⟨kk.keeps h.box (by simp), h.r8, h.ev.keep kk, h.sn.keep kk, h.tm.keep kk, h.hp⟩
theorem RS.free (h : RS t w0 w p pre reg E S M k ev sn tm) (i : Nat) : w.frozen? ⟨p, i, none⟩ = false := by simp [World.frozen?, h.box]
theorem RS.cell_pre (h : RS t w0 w p pre reg E S M k ev sn tm) {i : Nat} {x : Value} (hi : pre[i]? = some x) : w.cell? ⟨p, i, none⟩ = some x :=
  cell_list_N h.box (by rw [List.getElem?_append_left (List.getElem?_eq_some_iff.1 hi).1]; exact hi)
theorem RS.cell_res (h : RS t w0 w p pre reg E S M k ev sn tm) {o i : Nat} {x : Value} (ho : pre.length + i = o) (hi : (cellsR reg ev sn tm k)[i]? = some x) : w.cell? ⟨p, o, none⟩ = some x :=
  cell_list_N h.box (by subst ho; rw [List.getElem?_append_right (by omega), Nat.add_sub_cancel_left]; exact hi)
theorem cellsR_reg {i : Nat} {x : Int} (hi : reg[i]? = some x) : (cellsR reg ev sn tm k)[i]? = some (Iv_N x) := by
  unfold cellsR
  rw [List.getElem?_append_left (by rw [BI_length_N]; exact (List.getElem?_eq_some_iff.1 hi).1)]
  exact BI_get_N hi
theorem cellsR_ev (h : reg.length = 8) : (cellsR reg ev sn tm k)[8]? = some ev := by
  unfold cellsR; rw [List.getElem?_append_right (by rw [BI_length_N]; omega), BI_length_N, h]; rfl
theorem cellsR_sn (h : reg.length = 8) : (cellsR reg ev sn tm k)[9]? = some sn := by
  unfold cellsR; rw [List.getElem?_append_right (by rw [BI_length_N]; omega), BI_length_N, h]; rfl
theorem cellsR_tm (h : reg.length = 8) : (cellsR reg ev sn tm k)[10]? = some tm := by
  unfold cellsR; rw [List.getElem?_append_right (by rw [BI_length_N]; omega), BI_length_N, h]; rfl
theorem cellsR_k (h : reg.length = 8) : (cellsR reg ev sn tm k)[11]? = some (Iv_N (k : Int)) := by
  unfold cellsR; rw [List.getElem?_append_right (by rw [BI_length_N]; omega), BI_length_N, h]; rfl
/-- A cell of the block is set; the rows stay. -/
theorem RS.put (hT : t.Ok) (h : RS t w0 w p pre reg E S M k ev sn tm) {o : Nat} {x : Value} {pre' : List Value} {reg' : List Int} {k' : Nat} (he : (pre ++ cellsR reg ev sn tm k).set o x = pre' ++ cellsR reg' ev sn tm k') (h8 : reg'.length = 8) : RS t w0 (w.setCell ⟨p, o, none⟩ x) p pre' reg' E S M k' ev sn tm := by
  obtain ⟨d1, d2, d3, -, -, -⟩ := hT
  have ks : Kept [p] w (w.setCell ⟨p, o, none⟩ x) := (Kept.refl [p] w).setCell (.inl (by simp)) _
  exact ⟨by rw [set_list h.box, he], h8, h.ev.boxed h.box d1 h.hp ks, h.sn.boxed h.box d2 h.hp ks, h.tm.boxed h.box d3 h.hp ks, h.hp⟩
theorem RS.put_pre (hT : t.Ok) (h : RS t w0 w p pre reg E S M k ev sn tm) {o : Nat} (x : Value) {pre' : List Value} (ho : o < pre.length) (he : pre.set o x = pre') : RS t w0 (w.setCell ⟨p, o, none⟩ x) p pre' reg E S M k ev sn tm :=
  h.put hT (by rw [List.set_append_left _ _ ho, he]) h.r8
theorem RS.put_reg (hT : t.Ok) (h : RS t w0 w p pre reg E S M k ev sn tm) {o i : Nat} (x : Int) (ho : pre.length + i = o) (hi : i < 8) : RS t w0 (w.setCell ⟨p, o, none⟩ (Iv_N x)) p pre (reg.set i x) E S M k ev sn tm := by
  subst ho
  refine h.put hT ?_ (by rw [List.length_set]; exact h.r8)
  rw [List.set_append_right _ _ (by omega), Nat.add_sub_cancel_left]
  unfold cellsR
  rw [List.set_append_left _ _ (by rw [BI_length_N, h.r8]; exact hi), BI_set_N]
theorem RS.put_k (hT : t.Ok) (h : RS t w0 w p pre reg E S M k ev sn tm) {o k' : Nat} {x : Value} (ho : pre.length + 11 = o) (hx : x = .int .i64 (k' : Int)) : RS t w0 (w.setCell ⟨p, o, none⟩ x) p pre reg E S M k' ev sn tm := by
  subst ho
  refine h.put hT ?_ h.r8
  rw [List.set_append_right _ _ (by omega), Nat.add_sub_cancel_left]
  unfold cellsR
  rw [List.set_append_right _ _ (by rw [BI_length_N, h.r8]; omega), BI_length_N, h.r8, hx]
  rfl
/-- An event more. -/
theorem RS.addEv {T' : TypeId} {b : Nat} {z : Value} (R : RowT T' t.e1 2 b z) (hT : t.Ok) (h : RS t w0 w p pre reg E S M k ev sn tm) (hl : E.length ≤ 900000) (x : Ev) (o : Nat) (ho : pre.length + 8 = o) (tt : TypeId) (fr : Nat × Nat) (ty : TypeId) :
    ∃ ad c w2, (Builtin.append_ #[T', T'] ty #[ev, .slice (some ⟨w.heap.size, 0, none⟩) 1 1]).run Tryd.prog (w.alloc (.cells [.int .i64 (x.r : Int), .int .i64 x.v].toArray tt fr)) = .ok (.slice ad (E.length + 1) c) w2 ∧ w2.cell? ⟨p, o, none⟩ = some ev ∧ w2.frozen? ⟨p, o, none⟩ = false ∧ RS t w0 (w2.setCell ⟨p, o, none⟩ (.slice ad (E.length + 1) c)) p pre reg (E ++ [x]) S M k (.slice ad (E.length + 1) c) sn tm := by
  subst ho
  have hl' : (rowE E).length ≤ 900000 := by rw [rowE_length]; exact hl
  obtain ⟨ad, c, w2, hrun, hO, k2, hN⟩ := append_rowR R h.ev.own [.int .i64 (x.r : Int), .int .i64 x.v] rfl (by simp [Value.oneCell']) hl' tt fr ty
  rw [rowE_length] at hrun hO hN
  obtain ⟨d1, d2, d3, d4, d5, d6⟩ := hT
  have gv : ev.ownBlock ≠ some p := ownsR_ne h.ev.own h.box d1
  have hb2 : w2.heap[p]? = some (.cells (pre ++ cellsR reg ev sn tm k).toArray t.T (0, 0)) := k2.keeps h.box (by simpa using gv)
  have h1 := h.sn.besides h.ev (Ne.symm d4) k2
  have h2 := h.tm.besides h.ev (Ne.symm d5) k2
  have e1 : rowE (E ++ [x]) = rowE E ++ [[.int .i64 (x.r : Int), .int .i64 x.v]] := by simp [rowE]
  have h3 : Out t.e1 2 w0 w2 (.slice ad (E.length + 1) c) (rowE (E ++ [x])) := ⟨by rw [e1]; exact hO, fun g' hg' => by
    rcases hN g' hg' with h3 | h3
    · exact h.ev.new g' h3
    · exact Nat.le_trans h.kept.size h3, h1.kept⟩
  have ks : Kept [p] w2 (w2.setCell ⟨p, pre.length + 8, none⟩ (.slice ad (E.length + 1) c)) := (Kept.refl [p] w2).setCell (.inl (by simp)) _
  refine ⟨ad, c, w2, hrun, cell_list_N hb2 (by rw [List.getElem?_append_right (by omega), Nat.add_sub_cancel_left]; exact cellsR_ev h.r8), by simp [World.frozen?, hb2], ⟨?_, h.r8, h3.boxed hb2 d1 h.hp ks, h1.boxed hb2 d2 h.hp ks, h2.boxed hb2 d3 h.hp ks, h.hp⟩⟩
  rw [set_list hb2, List.set_append_right _ _ (by omega), Nat.add_sub_cancel_left]
  unfold cellsR
  rw [List.set_append_right _ _ (by rw [BI_length_N, h.r8]; omega), BI_length_N, h.r8]
  rfl
/-- A letter more. -/
theorem RS.addSn {T' : TypeId} {b : Nat} {z : Value} (R : RowT T' t.e2 3 b z) (hT : t.Ok) (h : RS t w0 w p pre reg E S M k ev sn tm) (hl : S.length ≤ 900000) (x : Sn) (o : Nat) (ho : pre.length + 9 = o) (tt : TypeId) (fr : Nat × Nat) (ty : TypeId) :
    ∃ ad c w2, (Builtin.append_ #[T', T'] ty #[sn, .slice (some ⟨w.heap.size, 0, none⟩) 1 1]).run Tryd.prog (w.alloc (.cells [.string ⟨x.to.toArray⟩, .int .i64 x.kind, .int .i64 x.arg].toArray tt fr)) = .ok (.slice ad (S.length + 1) c) w2 ∧ w2.cell? ⟨p, o, none⟩ = some sn ∧ w2.frozen? ⟨p, o, none⟩ = false ∧ RS t w0 (w2.setCell ⟨p, o, none⟩ (.slice ad (S.length + 1) c)) p pre reg E (S ++ [x]) M k ev (.slice ad (S.length + 1) c) tm := by
  subst ho
  have hl' : (rowS S).length ≤ 900000 := by rw [rowS_length]; exact hl
  obtain ⟨ad, c, w2, hrun, hO, k2, hN⟩ := append_rowR R h.sn.own [.string ⟨x.to.toArray⟩, .int .i64 x.kind, .int .i64 x.arg] rfl (by simp [Value.oneCell']) hl' tt fr ty
  rw [rowS_length] at hrun hO hN
  obtain ⟨d1, d2, d3, d4, d5, d6⟩ := hT
  have gv : sn.ownBlock ≠ some p := ownsR_ne h.sn.own h.box d2
  have hb2 : w2.heap[p]? = some (.cells (pre ++ cellsR reg ev sn tm k).toArray t.T (0, 0)) := k2.keeps h.box (by simpa using gv)
  have h1 := h.ev.besides h.sn d4 k2
  have h2 := h.tm.besides h.sn (Ne.symm d6) k2
  have e1 : rowS (S ++ [x]) = rowS S ++ [[.string ⟨x.to.toArray⟩, .int .i64 x.kind, .int .i64 x.arg]] := by simp [rowS]
  have h3 : Out t.e2 3 w0 w2 (.slice ad (S.length + 1) c) (rowS (S ++ [x])) := ⟨by rw [e1]; exact hO, fun g' hg' => by
    rcases hN g' hg' with h3 | h3
    · exact h.sn.new g' h3
    · exact Nat.le_trans h.kept.size h3, h1.kept⟩
  have ks : Kept [p] w2 (w2.setCell ⟨p, pre.length + 9, none⟩ (.slice ad (S.length + 1) c)) := (Kept.refl [p] w2).setCell (.inl (by simp)) _
  refine ⟨ad, c, w2, hrun, cell_list_N hb2 (by rw [List.getElem?_append_right (by omega), Nat.add_sub_cancel_left]; exact cellsR_sn h.r8), by simp [World.frozen?, hb2], ⟨?_, h.r8, h1.boxed hb2 d1 h.hp ks, h3.boxed hb2 d2 h.hp ks, h2.boxed hb2 d3 h.hp ks, h.hp⟩⟩
  rw [set_list hb2, List.set_append_right _ _ (by omega), Nat.add_sub_cancel_left]
  unfold cellsR
  rw [List.set_append_right _ _ (by rw [BI_length_N, h.r8]; omega), BI_length_N, h.r8]
  rfl
/-- A reminder more. -/
theorem RS.addTm {T' : TypeId} {b : Nat} {z : Value} (R : RowT T' t.e3 5 b z) (hT : t.Ok) (h : RS t w0 w p pre reg E S M k ev sn tm) (hl : M.length ≤ 900000) (x : Tm) (o : Nat) (ho : pre.length + 10 = o) (tt : TypeId) (fr : Nat × Nat) (ty : TypeId) :
    ∃ ad c w2, (Builtin.append_ #[T', T'] ty #[tm, .slice (some ⟨w.heap.size, 0, none⟩) 1 1]).run Tryd.prog (w.alloc (.cells [.string ⟨x.nm.toArray⟩, .bool x.can, .int .i64 x.due, .int .i64 x.per, .int .i64 x.kind].toArray tt fr)) = .ok (.slice ad (M.length + 1) c) w2 ∧ w2.cell? ⟨p, o, none⟩ = some tm ∧ w2.frozen? ⟨p, o, none⟩ = false ∧ RS t w0 (w2.setCell ⟨p, o, none⟩ (.slice ad (M.length + 1) c)) p pre reg E S (M ++ [x]) k ev sn (.slice ad (M.length + 1) c) := by
  subst ho
  have hl' : (rowT M).length ≤ 900000 := by rw [rowT_length]; exact hl
  obtain ⟨ad, c, w2, hrun, hO, k2, hN⟩ := append_rowR R h.tm.own [.string ⟨x.nm.toArray⟩, .bool x.can, .int .i64 x.due, .int .i64 x.per, .int .i64 x.kind] rfl (by simp [Value.oneCell']) hl' tt fr ty
  rw [rowT_length] at hrun hO hN
  obtain ⟨d1, d2, d3, d4, d5, d6⟩ := hT
  have gv : tm.ownBlock ≠ some p := ownsR_ne h.tm.own h.box d3
  have hb2 : w2.heap[p]? = some (.cells (pre ++ cellsR reg ev sn tm k).toArray t.T (0, 0)) := k2.keeps h.box (by simpa using gv)
  have h1 := h.ev.besides h.tm d5 k2
  have h2 := h.sn.besides h.tm d6 k2
  have e1 : rowT (M ++ [x]) = rowT M ++ [[.string ⟨x.nm.toArray⟩, .bool x.can, .int .i64 x.due, .int .i64 x.per, .int .i64 x.kind]] := by simp [rowT]
  have h3 : Out t.e3 5 w0 w2 (.slice ad (M.length + 1) c) (rowT (M ++ [x])) := ⟨by rw [e1]; exact hO, fun g' hg' => by
    rcases hN g' hg' with h3 | h3
    · exact h.tm.new g' h3
    · exact Nat.le_trans h.kept.size h3, h1.kept⟩
  have ks : Kept [p] w2 (w2.setCell ⟨p, pre.length + 10, none⟩ (.slice ad (M.length + 1) c)) := (Kept.refl [p] w2).setCell (.inl (by simp)) _
  refine ⟨ad, c, w2, hrun, cell_list_N hb2 (by rw [List.getElem?_append_right (by omega), Nat.add_sub_cancel_left]; exact cellsR_tm h.r8), by simp [World.frozen?, hb2], ⟨?_, h.r8, h1.boxed hb2 d1 h.hp ks, h2.boxed hb2 d2 h.hp ks, h3.boxed hb2 d3 h.hp ks, h.hp⟩⟩
  rw [set_list hb2, List.set_append_right _ _ (by omega), Nat.add_sub_cancel_left]
  unfold cellsR
  rw [List.set_append_right _ _ (by rw [BI_length_N, h.r8]; omega), BI_length_N, h.r8]
  rfl
end
end Go.Proofs.YtngnenbidpojeaaDoor
