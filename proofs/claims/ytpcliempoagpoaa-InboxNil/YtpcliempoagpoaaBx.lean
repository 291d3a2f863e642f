/-
  An inbox in memory: a block of eight letters and their count. And 'copy' of rows of k cells, over any program.
-/
import Derived.Test.YtpcliempoagpoaaSa
import Derived.Test.YtpcliempoagpoaaUn
import Derived.Laws.CopyRow
namespace Go.Proofs.Ytpcliempoagpoaa
open Go.RowKit
set_option linter.unusedVariables false
section
variable {P : Program}
/-- 'copy(dst, src)' of rows of k cells: what was read goes over, also where both lie in one block. -/
theorem run_copy_rowK (w : World) (dT sT ty elem : TypeId) (k g o dLen dCap : Nat) (a : Addr) (sLen sCap : Nat) (cur : Array Value) (t : TypeId) (cs : List Value)
    (hu : P.underlying dT = some (.slice elem)) (hs : (P.info? elem).map (·.size) = some k)
    (hg : w.heap[g]? = some (.cells cur t (0, 0))) (hn : cs.length = Nat.min sLen dLen * k)
    (hsrc : ∀ j v, cs[j]? = some v → w.cell? (a.add j) = some v) (hfit : o + cs.length ≤ cur.size) (h1 : ∀ v ∈ cs, v.oneCell' = true) :
    (Builtin.copy_ #[dT, sT] ty #[.slice (some ⟨g, o, none⟩) dLen dCap, .slice (some a) sLen sCap]).run P w =
      .ok (goInt (Nat.min sLen dLen)) (w.setRow g (cur.toList.take o ++ cs ++ cur.toList.drop (o + cs.length)).toArray) := by
  have hl := run_loadCells_list (P := P) w a cs hsrc
  have hst := run_storeCells_at P g o t cs 0 cur w hg (by simpa using hfit) h1
  cases hq : P.info? elem with
  | none => simp [hq] at hs
  | some i =>
    have hi : i.size = k := by simpa [hq] using hs
    simp [Builtin.copy_, run_underlying hu, Builtin.lenOf, Builtin.firstCells, sizeOf, typeInfo, hq, hi, ← hn, hl, hst]
theorem step_copy_run {w : World} {ops : Array Oper} {o : Oper} {a : Act} {Q : Exit → Act → World → Prop} (dT sT : TypeId) (d s : Operand) (ho : o.op = .call { callee := .builtin .copy, args := #[d, s], argTypes := #[dT, sT] }) (hg : o.guard = none) (v y : Value) (hs : a.eval d = v) (hx : a.eval s = y) {K : Act → World → Prop} {E : Prop} {r : Value} {w' : World} (hrun : (Builtin.copy_ #[dT, sT] o.type #[v, y]).run P w = .ok r w') (hK : K (a.put o.dst r) w') :
    if Region.wanted o (yielded ops a.tmps) = true then Oper.wp P o a w K Q else E := by
  have hw : Region.wanted o (yielded ops a.tmps) = true := by simp [Region.wanted, hg]
  rw [if_pos hw]
  unfold Oper.wp execOp
  simp only [ho, resolve, invoke, builtin, Sem.run_bind, Sem.run_pure, Result.andThen_ok, List.map_toArray, List.map_cons, List.map_nil, hs, hx, hrun]
  exact hK
theorem wpList_copy_run {w : World} {ops : Array Oper} {rest : List Oper} {o : Oper} {a : Act} {Q : Exit → Act → World → Prop} (dT sT : TypeId) (d s : Operand)
    (ho : o.op = .call { callee := .builtin .copy, args := #[d, s], argTypes := #[dT, sT] }) (hgd : o.guard = none) (v y : Value) (hs : a.eval d = v) (hx : a.eval s = y) (r : Value) (w' : World) (hrun : (Builtin.copy_ #[dT, sT] o.type #[v, y]).run P w = .ok r w')
    (h : wpList P ops Q rest (a.put o.dst r) w') : wpList P ops Q (o :: rest) a w := by
  refine wpList_plain hgd fun K hK => ?_
  unfold Oper.wp
  simp [execOp, ho, resolve, invoke, builtin, hs, hx, hrun, Result.andThen]
  exact hK _ _ h
end
theorem Kept.setRow {S : List Nat} {a w : World} (h : Kept S a w) {g : Nat} (hp : g ∈ S ∨ a.heap.size ≤ g) (cs : Array Value) : Kept S a (w.setRow g cs) :=
  ⟨h.os, h.tape, h.output, by simpa [World.setRow] using h.size, fun k hk hn => by
    rw [setRow_other w g k cs (fun e => by subst e; rcases hp with h1 | h1; exact hn h1; omega)]; exact h.block k hk hn⟩
theorem put4_cell (w : World) (p o : Nat) (v0 v1 v2 v3 : Value) {a : Addr} (h : a.block = p → a.off < o ∨ o + 4 ≤ a.off) : ((((w.setCell ⟨p, o, none⟩ v0).setCell ⟨p, o + 1, none⟩ v1).setCell ⟨p, o + 2, none⟩ v2).setCell ⟨p, o + 3, none⟩ v3).cell? a = w.cell? a := by
  rw [World.cell?_setCell_other, World.cell?_setCell_other, World.cell?_setCell_other, World.cell?_setCell_other]
  all_goals (intro e; subst e; have := h rfl; simp at this; omega)
theorem set_list {w : World} {p k : Nat} {L : List Value} {t : TypeId} {x : Value} (h : w.heap[p]? = some (.cells L.toArray t (0, 0))) : (w.setCell ⟨p, k, none⟩ x).heap[p]? = some (.cells (L.set k x).toArray t (0, 0)) := by
  have := set_at (x := x) (k := k) h
  rwa [List.setIfInBounds_toArray] at this
/-- A struct of four cells that is stored whole, into a row. -/
theorem putL {w : World} {p o : Nat} {L : List Value} {t : TypeId} (h : w.heap[p]? = some (.cells L.toArray t (0, 0))) (x0 x1 x2 x3 : Value) : ∃ W, (((w.setCell ⟨p, o, none⟩ x0).setCell ⟨p, o + 1, none⟩ x1).setCell ⟨p, o + 2, none⟩ x2).setCell ⟨p, o + 3, none⟩ x3 = W ∧ Kept [p] w W ∧ W.heap[p]? = some (.cells ((((L.set o x0).set (o + 1) x1).set (o + 2) x2).set (o + 3) x3).toArray t (0, 0)) ∧ W.heap.size = w.heap.size :=
  ⟨_, rfl, ((((Kept.refl [p] w).setCell (p := ⟨p, o, none⟩) (.inl (by simp)) x0).setCell (p := ⟨p, o + 1, none⟩) (.inl (by simp)) x1).setCell (p := ⟨p, o + 2, none⟩) (.inl (by simp)) x2).setCell (p := ⟨p, o + 3, none⟩) (.inl (by simp)) x3, set_list (set_list (set_list (set_list h))), by simp⟩
/-- No letter. -/
def zq : Lq := ⟨⟨[], 0, 0, []⟩, none, 0⟩
/-- The eight places. -/
def padQ (qs : List Lq) : List Lq := qs ++ List.replicate (8 - qs.length) zq
/-- An inbox' cells. -/
def cellsB (qs : List Lq) : List Value := (CQ (padQ qs)).flatten ++ [.int .i64 (qs.length : Int)]
theorem padQ_length {qs : List Lq} (h : qs.length ≤ 8) : (padQ qs).length = 8 := by simp [padQ]; omega
theorem flatB_length {qs : List Lq} (h : qs.length ≤ 8) : (CQ (padQ qs)).flatten.length = 32 := by rw [(CQ_wide _).flat_length, CQ_length, padQ_length h]
theorem cellsB_length {qs : List Lq} (h : qs.length ≤ 8) : (cellsB qs).length = 33 := by simp only [cellsB, List.length_append, flatB_length h]; rfl
theorem cellsB_count {qs : List Lq} (h : qs.length ≤ 8) : (cellsB qs)[32]? = some (.int .i64 (qs.length : Int)) := by
  rw [cellsB, List.getElem?_append_right (by rw [flatB_length h]; omega), flatB_length h]
  rfl
theorem cellsB_at {qs : List Lq} (h : qs.length ≤ 8) {j : Nat} {q : Lq} (hj : (padQ qs)[j]? = some q) {i : Nat} {v : Value} (hi : (cellsQ q)[i]? = some v) : (cellsB qs)[j * 4 + i]? = some v := by
  have h1 : j < 8 := by
    have := (List.getElem?_eq_some_iff.1 hj).1
    rw [padQ_length h] at this; exact this
  have h2 : i < 4 := (List.getElem?_eq_some_iff.1 hi).1
  rw [cellsB, List.getElem?_append_left (by rw [flatB_length h]; omega)]
  exact (CQ_wide _).at j (cellsQ q) (by simp [CQ, hj]) i v hi
theorem padQ_get {qs : List Lq} {j : Nat} {q : Lq} (hj : qs[j]? = some q) : (padQ qs)[j]? = some q := by
  rw [padQ, List.getElem?_append_left (List.getElem?_eq_some_iff.1 hj).1]; exact hj
/-- A letter more. -/
theorem cellsB_push (qs : List Lq) (q : Lq) (h : qs.length < 8) : (((((cellsB qs).set (qs.length * 4) (Sv q.x.fr)).set (qs.length * 4 + 1) (.int .u64 (q.x.ser : Int))).set (qs.length * 4 + 2) (.int .i64 q.x.kind)).set (qs.length * 4 + 3) q.sl).set 32 (.int .i64 ((qs.length + 1 : Nat) : Int)) = cellsB (qs ++ [q]) := by
  match qs, h with
  | [], _ => rfl
  | [_], _ => rfl
  | [_, _], _ => rfl
  | [_, _, _], _ => rfl
  | [_, _, _, _], _ => rfl
  | [_, _, _, _, _], _ => rfl
  | [_, _, _, _, _, _], _ => rfl
  | [_, _, _, _, _, _, _], _ => rfl
  | _ :: _ :: _ :: _ :: _ :: _ :: _ :: _ :: _, h => simp at h; omega
/-- A letter less. -/
theorem cellsB_pop (q : Lq) (qs : List Lq) (h : qs.length < 8) : ((((((CQ qs).flatten ++ (cellsB (q :: qs)).drop (CQ qs).flatten.length).set 32 (.int .i64 (qs.length : Int))).set (qs.length * 4) (Sv [])).set (qs.length * 4 + 1) (.int .u64 0)).set (qs.length * 4 + 2) (.int .i64 0)).set (qs.length * 4 + 3) (.slice none 0 0) = cellsB qs := by
  match qs, h with
  | [], _ => rfl
  | [_], _ => rfl
  | [_, _], _ => rfl
  | [_, _, _], _ => rfl
  | [_, _, _, _], _ => rfl
  | [_, _, _, _, _], _ => rfl
  | [_, _, _, _, _, _], _ => rfl
  | [_, _, _, _, _, _, _], _ => rfl
  | _ :: _ :: _ :: _ :: _ :: _ :: _ :: _ :: _, h => simp at h; omega
/-- Letters that are laid into an inbox of none. -/
theorem cellsB_fill (qs : List Lq) (h : qs.length ≤ 8) : (CQ qs).flatten ++ ((cellsB []).set 32 (.int .i64 (qs.length : Int))).drop (CQ qs).flatten.length = cellsB qs := by
  match qs, h with
  | [], _ => rfl
  | [_], _ => rfl
  | [_, _], _ => rfl
  | [_, _, _], _ => rfl
  | [_, _, _, _], _ => rfl
  | [_, _, _, _, _], _ => rfl
  | [_, _, _, _, _, _], _ => rfl
  | [_, _, _, _, _, _, _], _ => rfl
  | [_, _, _, _, _, _, _, _], _ => rfl
  | _ :: _ :: _ :: _ :: _ :: _ :: _ :: _ :: _ :: _, h => simp at h
/-- The inbox at block p has the letters qs. -/
structure IsB (w : World) (p : Nat) (qs : List Lq) : Prop where
  box : w.heap[p]? = some (.cells (cellsB qs).toArray 37 (0, 0))
  len : qs.length ≤ 8
  good : ∀ q ∈ qs, q.x.ok ∧ q.x.formed = true
  args : ∀ q ∈ qs, OwnsJ w q.sl q.x.args
section
variable {w w' : World} {p : Nat} {qs : List Lq}
theorem IsB.lt (h : IsB w p qs) : p < w.heap.size := lt_of_block h.box
/-- The blocks of Args are none of other types. -/
theorem ownsJ_type {v : Value} {l : List Int} (h : OwnsJ w v l) {g : Nat} (hg : v.ownBlock = some g) : ∃ cs, w.heap[g]? = some (.cells cs 2 (0, 0)) := by
  rcases h.2 with ⟨rfl, _⟩ | ⟨g1, cap, cur, rfl, _, hb, _⟩
  · simp [Value.ownBlock] at hg
  · simp [Value.ownBlock] at hg
    subst hg
    exact ⟨_, hb⟩
theorem ownsJ_ne {v : Value} {l : List Int} (h : OwnsJ w v l) {p : Nat} {cs : Array Value} {t : TypeId} {fz : Nat × Nat} (hp : w.heap[p]? = some (.cells cs t fz)) (ht : t ≠ 2) : v.ownBlock ≠ some p := fun hg => by
  obtain ⟨cs', h'⟩ := ownsJ_type h hg
  rw [h'] at hp
  injection hp with hp
  injection hp with _ hp _
  exact ht hp.symm
theorem IsB.kept {S : List Nat} (h : IsB w p qs) (k : Kept S w w') (hp : p ∉ S) (hq : ∀ q ∈ qs, ∀ g, q.sl.ownBlock = some g → g ∉ S) : IsB w' p qs :=
  ⟨k.keeps h.box hp, h.len, h.good, fun q hm => (h.args q hm).kept k (hq q hm)⟩
theorem IsB.kept0 (h : IsB w p qs) (k : Kept [] w w') : IsB w' p qs := h.kept k (by simp) (by simp)
theorem IsB.cell (h : IsB w p qs) {i : Nat} {v : Value} (hi : (cellsB qs)[i]? = some v) : w.cell? ⟨p, i, none⟩ = some v := by
  unfold World.cell?
  rw [h.box]
  simpa using hi
theorem IsB.free (h : IsB w p qs) (i : Nat) : w.frozen? ⟨p, i, none⟩ = false := by
  simp [World.frozen?, h.box]
theorem IsB.count (h : IsB w p qs) : w.cell? ⟨p, 32, none⟩ = some (.int .i64 (qs.length : Int)) := h.cell (cellsB_count h.len)
theorem IsB.at (h : IsB w p qs) {j : Nat} {q : Lq} (hj : qs[j]? = some q) : w.cell? ⟨p, j * 4, none⟩ = some (Sv q.x.fr) ∧ w.cell? ⟨p, j * 4 + 1, none⟩ = some (.int .u64 (q.x.ser : Int)) ∧ w.cell? ⟨p, j * 4 + 2, none⟩ = some (.int .i64 q.x.kind) ∧ w.cell? ⟨p, j * 4 + 3, none⟩ = some q.sl :=
  ⟨h.cell (cellsB_at h.len (padQ_get hj) (i := 0) rfl), h.cell (cellsB_at h.len (padQ_get hj) (i := 1) rfl), h.cell (cellsB_at h.len (padQ_get hj) (i := 2) rfl), h.cell (cellsB_at h.len (padQ_get hj) (i := 3) rfl)⟩
theorem IsB.any (h : IsB w p qs) {i : Nat} (hi : i < 33) : ∃ v, w.cell? ⟨p, i, none⟩ = some v :=
  ⟨_, h.cell (List.getElem?_eq_getElem (by rw [cellsB_length h.len]; exact hi))⟩
/-- The letters of an inbox as a row. -/
theorem IsB.row (h : IsB w p qs) : RowQ w (.slice (some ⟨p, 0, none⟩) qs.length 8) qs := by
  refine ⟨some ⟨p, 0, none⟩, 8, by rw [CQ_length], by rw [CQ_length]; exact h.len, by unfold maxLen; omega, by simp, fun _ => ⟨p, 0, rfl, fun j r hr i x hx => ?_⟩⟩
  rw [CQ, List.getElem?_map, Option.map_eq_some_iff] at hr
  obtain ⟨q, hq, rfl⟩ := hr
  rw [Nat.zero_add]
  exact h.cell (cellsB_at h.len (padQ_get hq) hx)
theorem IsB.vals (h : IsB w p qs) : ValsQ w qs := fun q hq => (h.args q hq).reads
theorem IsB.new (w : World) : IsB (w.alloc (.cells (cellsB []).toArray 37)) w.heap.size [] :=
  ⟨heap_alloc_new w _, by simp, by simp, by simp⟩
end
end Go.Proofs.Ytpcliempoagpoaa
