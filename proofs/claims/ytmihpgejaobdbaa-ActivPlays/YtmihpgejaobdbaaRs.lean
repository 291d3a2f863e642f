/-
  Steps of a region by run equations; blocks of four cells. Over any program.
-/
import Derived.Test.YtmihpgejaobdbaaRg
import Derived.Deep.RegionHeld3
import Derived.Laws.Rows
import Derived.Deep.Draws
namespace Go.Proofs.Ytmihpgejaobdbaa
set_option maxRecDepth 100000
open Go.RowKit
set_option linter.unusedVariables false
theorem Kept.drewN {S : List Nat} {a w : World} (h : Kept S a w) (n : Nat) : Kept S a (w.drewN n) := ⟨h.os, h.tape, h.output, h.size, h.block⟩
theorem Kept.cell_eq {w w' : World} (k : Kept [] w w') {p : Addr} {u : Value} (h : w.cell? p = some u) : w'.cell? p = some u := by
  rw [k.cell (World.block_lt_of_cell? _ _ h) (by simp)]
  exact h
section
variable {P : Program} {w : World}
theorem wpList_append_run {ops : Array Oper} {rest : List Oper} {o : Oper} {a : Act} {Q : Exit → Act → World → Prop} (t u : TypeId) (sl x : Operand)
    (ho : o.op = .call { callee := .builtin .append, args := #[sl, x], argTypes := #[t, u] }) (hgd : Region.wanted o (yielded ops a.tmps) = true) (v y : Value) (hs : a.eval sl = v) (hx : a.eval x = y) (r : Value) (w' : World) (hrun : (Builtin.append_ #[t, u] o.type #[v, y]).run P w = .ok r w')
    (h : wpList P ops Q rest (a.put o.dst r) w') : wpList P ops Q (o :: rest) a w := by
  refine wpList_step fun K hK => ?_
  rw [if_pos hgd]
  unfold Oper.wp execOp
  simp only [ho, resolve, invoke, builtin, Sem.run_bind, Sem.run_pure, Result.andThen_ok, List.map_toArray, List.map_cons, List.map_nil, hs, hx, hrun]
  exact hK _ _ h
theorem step_append_run {ops : Array Oper} {o : Oper} {a : Act} {Q : Exit → Act → World → Prop} (t : TypeId) (sl x : Operand) (ho : o.op = .call { callee := .builtin .append, args := #[sl, x], argTypes := #[t, t] }) (hg : o.guard = none) (v y : Value) (hs : a.eval sl = v) (hx : a.eval x = y) {K : Act → World → Prop} {E : Prop} {r : Value} {w' : World} (hrun : (Builtin.append_ #[t, t] o.type #[v, y]).run P w = .ok r w') (hK : K (a.put o.dst r) w') :
    if Region.wanted o (yielded ops a.tmps) = true then Oper.wp P o a w K Q else E := by
  have hw : Region.wanted o (yielded ops a.tmps) = true := by simp [Region.wanted, hg]
  rw [if_pos hw]
  unfold Oper.wp execOp
  simp only [ho, resolve, invoke, builtin, Sem.run_bind, Sem.run_pure, Result.andThen_ok, List.map_toArray, List.map_cons, List.map_nil, hs, hx, hrun]
  exact hK
variable {b : Nat} {v0 v1 v2 v3 x : Value} {t : TypeId}
theorem cells4 (h : w.heap[b]? = some (.cells #[v0, v1, v2, v3] t (0, 0))) : w.cell? ⟨b, 0, none⟩ = some v0 ∧ w.cell? ⟨b, 1, none⟩ = some v1 ∧ w.cell? ⟨b, 2, none⟩ = some v2 ∧ w.cell? ⟨b, 3, none⟩ = some v3 := by simp [World.cell?, h]
theorem free4 (h : w.heap[b]? = some (.cells #[v0, v1, v2, v3] t (0, 0))) : w.frozen? ⟨b, 0, none⟩ = false ∧ w.frozen? ⟨b, 1, none⟩ = false ∧ w.frozen? ⟨b, 2, none⟩ = false ∧ w.frozen? ⟨b, 3, none⟩ = false := by simp [World.frozen?, h]
theorem set_at {cs : Array Value} {fz : Nat × Nat} {k : Nat} (h : w.heap[b]? = some (.cells cs t fz)) : (w.setCell ⟨b, k, none⟩ x).heap[b]? = some (.cells (cs.setIfInBounds k x) t fz) := by
  have hlt := lt_of_block h
  have h' : w.heap[b] = .cells cs t fz := by simpa [Array.getElem?_eq_getElem hlt] using h
  show (w.heap.modify b _)[b]? = _
  rw [Array.getElem?_eq_getElem (by simpa using hlt), Array.getElem_modify_self, h']
  rfl
theorem set4_0 (h : w.heap[b]? = some (.cells #[v0, v1, v2, v3] t (0, 0))) : (w.setCell ⟨b, 0, none⟩ x).heap[b]? = some (.cells #[x, v1, v2, v3] t (0, 0)) := set_at h
theorem set4_1 (h : w.heap[b]? = some (.cells #[v0, v1, v2, v3] t (0, 0))) : (w.setCell ⟨b, 1, none⟩ x).heap[b]? = some (.cells #[v0, x, v2, v3] t (0, 0)) := set_at h
theorem set4_2 (h : w.heap[b]? = some (.cells #[v0, v1, v2, v3] t (0, 0))) : (w.setCell ⟨b, 2, none⟩ x).heap[b]? = some (.cells #[v0, v1, x, v3] t (0, 0)) := set_at h
theorem set4_3 (h : w.heap[b]? = some (.cells #[v0, v1, v2, v3] t (0, 0))) : (w.setCell ⟨b, 3, none⟩ x).heap[b]? = some (.cells #[v0, v1, v2, x] t (0, 0)) := set_at h
theorem setCell_other {k : Nat} (h : w.heap[b]? = w.heap[b]?) {c : Nat} (hc : c ≠ b) : (w.setCell ⟨b, k, none⟩ x).heap[c]? = w.heap[c]? := Below.heap_setCell w ⟨b, k, none⟩ x c (by exact hc)
theorem box1 (w : World) (o : Obj) : ∃ W, w.alloc o = W ∧ Kept [] w W ∧ W.heap.size = w.heap.size + 1 ∧ W.heap[w.heap.size]? = some o := ⟨_, rfl, (Kept.refl [] w).alloc _, by simp, heap_alloc_new w _⟩
theorem box2 (w : World) (o o' : Obj) : ∃ W, (w.alloc o).alloc o' = W ∧ Kept [] w W ∧ W.heap.size = w.heap.size + 2 ∧ W.heap[w.heap.size]? = some o ∧ W.heap[w.heap.size + 1]? = some o' := by
  refine ⟨_, rfl, ((Kept.refl [] w).alloc _).alloc _, by simp, ?_, ?_⟩
  · rw [Below.heap_alloc _ _ _ (by simp)]; exact heap_alloc_new w _
  · have := heap_alloc_new (w.alloc o) o'
    simpa using this
/-- A struct of four cells that is stored whole. -/
theorem put4 (h : w.heap[b]? = some (.cells #[v0, v1, v2, v3] t (0, 0))) (x0 x1 x2 x3 : Value) : ∃ W, (((w.setCell ⟨b, 0, none⟩ x0).setCell ⟨b, 1, none⟩ x1).setCell ⟨b, 2, none⟩ x2).setCell ⟨b, 3, none⟩ x3 = W ∧ Kept [b] w W ∧ W.heap[b]? = some (.cells #[x0, x1, x2, x3] t (0, 0)) ∧ W.heap.size = w.heap.size :=
  ⟨_, rfl, ((((Kept.refl [b] w).setCell (p := ⟨b, 0, none⟩) (.inl (by simp)) x0).setCell (p := ⟨b, 1, none⟩) (.inl (by simp)) x1).setCell (p := ⟨b, 2, none⟩) (.inl (by simp)) x2).setCell (p := ⟨b, 3, none⟩) (.inl (by simp)) x3, set4_3 (set4_2 (set4_1 (set4_0 h))), by simp⟩
theorem results_cell_row2 {fn : Func} {p u : Tmp} {ty : TypeId} (h : fn.results = #[.cell p ty, .tmp u]) (tmps : Array Value) (w : World) (g : Nat) (t : TypeId) (cs : Array Value) (fr : Nat × Nat) (d : TypeDesc)
    (hp : tmps.getD p undef = .pointer (some ⟨g, 0, none⟩)) (hg : w.heap[g]? = some (.cells cs t fr)) (hu : P.underlying ty = some d) (hd : (match d with | .struct _ | .array _ _ => true | _ => false) = true) (hi : (P.info? ty).map (·.size) = some cs.size) (r : Value) (hr : tmps.getD u undef = r) :
    (results fn tmps).run P w = .ok (.tuple #[.agg cs, r]) w := by
  have hp' : tmps[p]?.getD undef = .pointer (some ⟨g, 0, none⟩) := by simpa using hp
  have hr' : tmps[u]?.getD undef = r := by simpa using hr
  simp [results, h, hp', hr', asAddr, run_loadVar_row w g t ty cs fr d hg hu hd hi]
end
/-- Texts in rows of one cell each. -/
def CT (l : List (List UInt8)) : List (List Value) := l.map fun s => [Sv s]
theorem CT_length (l : List (List UInt8)) : (CT l).length = l.length := by simp [CT]
theorem CT_append (a b : List (List UInt8)) : CT (a ++ b) = CT a ++ CT b := by simp [CT]
theorem CT_wide (l : List (List UInt8)) : Wide 1 (CT l) := fun r hr => by
  simp only [CT, List.mem_map] at hr
  obtain ⟨s, -, rfl⟩ := hr
  exact ⟨rfl, fun x hx => by simp at hx; subst hx; rfl⟩
theorem rtT : RowT 37 9 1 16 (.string ⟨#[]⟩) := ⟨Try.underlying37, by kernel_rfl, rfl, by omega, by omega⟩
/-- Texts that came in. -/
def TextsIn (w : World) (v : Value) (ts : List (List UInt8)) : Prop := ReadsR 1 w v (CT ts)
theorem TextsIn.bound {w : World} {a : Option Addr} {n c : Nat} {ts : List (List UInt8)} (h : TextsIn w (.slice a n c) ts) : n = ts.length ∧ n ≤ c ∧ c ≤ 9223372036854775807 := by
  obtain ⟨a', c', he, h1, h2, -⟩ := h
  injection he with e1 e2 e3
  subst e1 e2 e3
  rw [CT, List.length_map] at *
  exact ⟨rfl, h1, by unfold maxLen at h2; omega⟩
theorem TextsIn.at {w : World} {a : Option Addr} {n c : Nat} {ts : List (List UInt8)} (h : TextsIn w (.slice a n c) ts) {k : Nat} {t : List UInt8} (ht : ts[k]? = some t) : ∃ b o, a = some ⟨b, o, none⟩ ∧ w.cell? ⟨b, o + k, none⟩ = some (Sv t) := by
  obtain ⟨a', c', he, h1, h2, h3, h4⟩ := h
  injection he with e1 e2 e3
  subst e1 e2 e3
  have hne : CT ts ≠ [] := fun e => by
    simp [CT] at e
    subst e
    simp at ht
  obtain ⟨b, o, rfl, hc⟩ := h4 hne
  refine ⟨b, o, rfl, ?_⟩
  have := hc k [Sv t] (by simp [CT, ht]) 0 (Sv t) rfl
  simpa using this
theorem TextsIn.kept0 {w w' : World} {v : Value} {ts : List (List UInt8)} (h : TextsIn w v ts) (k : Kept [] w w') : TextsIn w' v ts := ReadsR.kept h k (by simp)
theorem run_cutH {T e : TypeId} {k b : Nat} {z : Value} (R : RowT T e k b z) (W : World) (a : Option Addr) (n c j : Nat) (hj : j ≤ c) : (Instr.slice T (.slice a n c) none (some (.int .i64 (j : Int))) none).run Try.prog W = .ok (.slice (cutA a c 0 k) j c) W := by
  rw [run_slice_h W T a n c (by rw [R.elem]; exact R.under) .i64 j (by omega) (by omega), R.elem, R.size]
  simp [Result.andThen, sliced, cutA]
theorem run_cutL {T e : TypeId} {k b : Nat} {z : Value} (R : RowT T e k b z) (W : World) (a : Option Addr) (n c i : Nat) (hi : i ≤ n) : (Instr.slice T (.slice a n c) (some (.int .i64 (i : Int))) none none).run Try.prog W = .ok (.slice (cutA a c i k) (n - i) (c - i)) W := by
  rw [run_slice_l W T a n c (by rw [R.elem]; exact R.under) .i64 i (by omega) (by omega), R.elem, R.size]
  simp [Result.andThen, sliced, cutA]
theorem Kept.two {S T : List Nat} {a b c : World} (h : Kept [] a b) (k : Kept T b c) (hT : ∀ x ∈ T, a.heap.size ≤ x) : Kept S a c := (h.trans k (fun x hx => .inr (hT x hx))).mono (by simp)
end Go.Proofs.Ytmihpgejaobdbaa
