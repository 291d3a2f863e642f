/-
  A disk in memory; lay: one write, behind the others.
-/
import Derived.Test.YtilelklcfgemoaaRows
import Derived.Test.YtilelklcfgemoaaDState
import Derived.WalkKit
import Derived.Tactics2
import Derived.Laws.Pointers
import Derived.RegionTactic
import Derived.RegionCalls
import Derived.Deep.RegionWith
import Derived.Laws.NewBlocks
import Derived.Outline
import Derived.BigQuiet
import Derived.Deep.RegionHeld3
import Derived.Deep.AppendLies
import Derived.Deep.RegionLaw
import Derived.Deep.WholeRow
namespace Go.Proofs.Ytilelklcfgemoaa
open Go.RowKit
set_option linter.unusedVariables false
/-- The cells of a write. -/
def wcells (i : Int) (l : List UInt8) : List Value := .int .i64 i :: C8 l
theorem wcells_length (i : Int) (l : List UInt8) (h : l.length = 256) : (wcells i l).length = 257 := by simp [wcells, C8_length, h]
theorem wcells_one (i : Int) (l : List UInt8) : ∀ u ∈ wcells i l, u.oneCell' = true := by
  intro u hu
  rcases List.mem_cons.1 hu with rfl | hu
  · rfl
  · exact C8_one l u hu
/-- The cells of all writes. -/
def wsC (ws : List Wr) : List Value := ws.flatMap fun x => wcells (x.1 : Int) x.2
theorem wsC_snoc (ws : List Wr) (i : Nat) (l : List UInt8) : wsC (ws ++ [(i, l)]) = wsC ws ++ wcells (i : Int) l := by simp [wsC]
theorem wsC_length {nb : Nat} : ∀ (ws : List Wr), okW nb ws → (wsC ws).length = ws.length * 257
  | [], _ => rfl
  | x :: t, h => by
    have e : wsC (x :: t) = wcells (x.1 : Int) x.2 ++ wsC t := by simp [wsC]
    rw [e, List.length_append, wcells_length _ _ (h x (by simp)).2, wsC_length t (fun y hy => h y (by simp [hy])), List.length_cons]
    omega
theorem wsC_at {nb : Nat} : ∀ (ws : List Wr), okW nb ws → ∀ (k : Nat) (x : Wr), ws[k]? = some x → ∀ j u, (wcells (x.1 : Int) x.2)[j]? = some u → (wsC ws)[k * 257 + j]? = some u
  | [], _, k, x, hx, _, _, _ => by simp at hx
  | y :: t, h, 0, x, hx, j, u, hu => by
    have e : wsC (y :: t) = wcells (y.1 : Int) y.2 ++ wsC t := by simp [wsC]
    simp at hx
    subst hx
    rw [e, Nat.zero_mul, Nat.zero_add, List.getElem?_append_left (List.getElem?_eq_some_iff.1 hu).1]
    exact hu
  | y :: t, h, k + 1, x, hx, j, u, hu => by
    have e : wsC (y :: t) = wcells (y.1 : Int) y.2 ++ wsC t := by simp [wsC]
    have hl : (wcells (y.1 : Int) y.2).length = 257 := wcells_length _ _ (h y (by simp)).2
    rw [e, List.getElem?_append_right (by rw [hl]; omega), hl, show (k + 1) * 257 + j - 257 = k * 257 + j by omega]
    exact wsC_at t (fun z hz => h z (by simp [hz])) k x (by simpa using hx) j u hu
/-- The cells that tell the last writes. -/
def lastC (ws : List Wr) (nb : Nat) : List Value := (List.range nb).map fun k => .int .i64 (lastN ws k : Int)
theorem lastC_length (ws : List Wr) (nb : Nat) : (lastC ws nb).length = nb := by simp [lastC]
theorem lastC_at (ws : List Wr) (nb i : Nat) (h : i < nb) : (lastC ws nb)[i]? = some (.int .i64 (lastN ws i : Int)) := by simp [lastC, h]
theorem lastC_snoc (ws : List Wr) (nb i : Nat) (l : List UInt8) : lastC (ws ++ [(i, l)]) nb = (lastC ws nb).set i (.int .i64 ((ws.length + 1 : Nat) : Int)) := by
  apply List.ext_getElem?
  intro k
  rw [List.getElem?_set]
  by_cases hk : k < nb
  · rw [lastC_at _ _ _ hk, lastN_snoc]
    by_cases h : i = k
    · subst h
      simp [lastC_length, hk]
    · simp [h, lastC_at _ _ _ hk]
  · rw [List.getElem?_eq_none (by rw [lastC_length]; omega), List.getElem?_eq_none (by rw [lastC_length]; omega), lastC_length]
    by_cases h : i = k
    · subst h
      simp [hk]
    · simp [h]
/-- The disk s lies at block p; the blocks that are its own are F. -/
def IsD (w : World) (F : List Nat) (p : Nat) (s : St) : Prop :=
  ∃ vd g, F = p :: g :: vd.ownBlock.toList ∧ w.heap[p]? = some (.cells #[vd, .slice (some ⟨g, 0, none⟩) s.nb s.nb, .int .i64 s.fuse, .bool s.down] 59 (0, 0)) ∧
    w.ownsRow 0 77 257 vd s.ws.length (wsC s.ws) ∧ w.heap[g]? = some (.cells (lastC s.ws s.nb).toArray 3 (0, 0)) ∧ p ≠ g ∧ vd.ownBlock ≠ some p ∧ vd.ownBlock ≠ some g ∧ s.ok
/-- The blocks F' lie among F, or are new. -/
def NewF (w : World) (F F' : List Nat) : Prop := ∀ x ∈ F', x ∈ F ∨ w.heap.size ≤ x
theorem NewF.refl (w : World) (F : List Nat) : NewF w F F := fun _ h => .inl h
theorem NewF.trans {w w1 : World} {F F1 F2 : List Nat} (h : NewF w F F1) (k : NewF w1 F1 F2) (hs : w.heap.size ≤ w1.heap.size) : NewF w F F2 := fun x hx => by
  rcases k x hx with h1 | h1
  · exact h x h1
  · exact .inr (by omega)
theorem ownsRow_keep {S : List Nat} {w w' : World} {e : TypeId} {size : Nat} {v : Value} {n : Nat} {xs : List Value} (h : w.ownsRow 0 e size v n xs) (k : Kept S w w') (hn : ∀ g, v.ownBlock = some g → g ∉ S) : w'.ownsRow 0 e size v n xs := by
  refine ⟨h.1, ?_⟩
  rcases h.2 with h0 | ⟨g, cap, cur, rfl, hb, hg, r⟩
  · exact .inl h0
  · exact .inr ⟨g, cap, cur, rfl, hb, k.keeps hg (hn g rfl), r⟩
theorem IsD.kept {S : List Nat} {w w' : World} {F : List Nat} {p : Nat} {s : St} (h : IsD w F p s) (k : Kept S w w') (hn : ∀ x ∈ F, x ∉ S) : IsD w' F p s := by
  obtain ⟨vd, g, rfl, h1, h2, h3, h4, h5, h6, h7⟩ := h
  exact ⟨vd, g, rfl, k.keeps h1 (hn p (by simp)), ownsRow_keep h2 k (fun x hx => hn x (by simp [hx])), k.keeps h3 (hn g (by simp)), h4, h5, h6, h7⟩
theorem IsD.lt {w : World} {F : List Nat} {p : Nat} {s : St} (h : IsD w F p s) : ∀ x ∈ F, x < w.heap.size := by
  obtain ⟨vd, g, rfl, h1, h2, h3, h4, h5, h6, h7⟩ := h
  intro x hx
  simp only [List.mem_cons, Option.mem_toList] at hx
  rcases hx with rfl | rfl | hx
  · exact lt_of_block h1
  · exact lt_of_block h3
  · exact (World.ownsRow.lt h2 x hx).2
theorem IsD.ok {w : World} {F : List Nat} {p : Nat} {s : St} (h : IsD w F p s) : s.ok := by obtain ⟨_, _, _, _, _, _, _, _, _, h⟩ := h; exact h
set_option maxRecDepth 100000 in
theorem run_build (i : Int) (w : World) : (Instr.build 77 #[(0, .int .i64 i)]).run Try.prog w = .ok (.agg (wcells i (zs 256)).toArray) w := by kernel_rfl
set_option maxRecDepth 100000 in
theorem run_allocw (w : World) : (Instr.alloc 77 true (.tuple #[])).run Try.prog w = .ok (.pointer (some ⟨w.heap.size, 0, none⟩)) (w.alloc (.cells (wcells 0 (zs 256)).toArray 77)) := by kernel_rfl
theorem size56 : (Try.prog.info? 77).map (·.size) = some 257 := by kernel_rfl
theorem inf56 : (Try.prog.info? 77).map (fun i => (i.zero, i.size, i.bytes)) = some (some (.agg (wcells 0 (zs 256)).toArray), 257, 264) := by kernel_rfl
theorem inf3 : (Try.prog.info? 3).map (fun i => (i.zero, i.size, i.bytes)) = some (some (.int .i64 0), 1, 8) := by kernel_rfl
theorem lay_list : ∀ (vs : List Value) (k : Nat) (cells : Array Value), k + vs.length ≤ cells.size → ((vs.zipIdx k).foldl (fun cs (x : Value × Nat) => cs.setIfInBounds x.2 x.1) cells).toList = cells.toList.take k ++ (vs ++ cells.toList.drop (k + vs.length))
  | [], k, cells, h => by simp
  | v :: t, k, cells, h => by
    simp only [List.length_cons] at h
    rw [List.zipIdx_cons, List.foldl_cons, lay_list t (k + 1) _ (by simp; omega)]
    simp only [Array.toList_setIfInBounds, List.length_cons]
    rw [List.take_set, List.drop_set_of_lt (by omega), List.take_succ_eq_append_getElem (by simp; omega), List.set_append_right _ _ (by simp; omega)]
    simp only [List.length_take, Array.length_toList]
    rw [show k - min k cells.size = 0 by omega, List.set_cons_zero, List.append_assoc]
    simp only [List.cons_append, List.nil_append]
    rw [show k + 1 + t.length = k + (t.length + 1) by omega]
theorem lay_all (cs Z : Array Value) (n : Nat) (h : cs.size = n) (hZ : Z.size = n) : Array.foldl (fun cs (x : Value × Nat) => cs.setIfInBounds x.snd x.fst) Z cs.zipIdx 0 n = cs := by
  subst h
  apply Array.toList_inj.1
  have := lay_list cs.toList 0 Z (by simp [hZ])
  have e : Array.foldl (fun cs (x : Value × Nat) => cs.setIfInBounds x.snd x.fst) Z cs.zipIdx 0 cs.size = cs.zipIdx.foldl (fun cs (x : Value × Nat) => cs.setIfInBounds x.snd x.fst) Z := by rw [Array.size_zipIdx]
  rw [e, ← Array.foldl_toList, Array.toList_zipIdx, this]
  simp [← hZ]
theorem run_buildw (cs : Array Value) (h : cs.size = 257) (w : World) : (Instr.buildSlice 57 1 #[(0, .agg cs)]).run Try.prog w = .ok (.slice (some ⟨w.heap.size, 0, none⟩) 1 1) (w.alloc (.cells cs 77)) := by
  obtain ⟨i0, hi, hz0, hz1, hz2⟩ := info_parts inf56
  simp only [Instr.buildSlice, Sem.run_bind, run_underlying Try.underlying57, Result.andThen_ok, sizeOf, typeInfo, zeroValue, Sem.run_pure]
  simp [Value.cells, hi, hz0, hz1, Instr.fill, h]
  rw [lay_all cs _ 257 h (by simp)]
  rfl
theorem load47 (w : World) (a : Addr) (v : Value) (hc : w.cell? a = some v) : (Instr.loadAt 57 (.pointer (some a))).run Try.prog w = .ok v w := by go_simp
theorem load46 (w : World) (a : Addr) (v : Value) (hc : w.cell? a = some v) : (Instr.loadAt 36 (.pointer (some a))).run Try.prog w = .ok v w := by go_simp
theorem load56 (w : World) (r : Nat) (i : Int) (l : List UInt8) (hl : l.length = 256) (h : w.heap[r]? = some (.cells (wcells i l).toArray 77 (0, 0))) : (Instr.loadAt 77 (.pointer (some ⟨r, 0, none⟩))).run Try.prog w = .ok (.agg (wcells i l).toArray) w := by
  simp only [Instr.loadAt, Instr.sureAddr, Sem.run_bind, Sem.run_pure, Result.andThen_ok]
  exact run_loadVar_row w r 77 77 _ (0, 0) _ h Try.underlying77 rfl (by rw [List.size_toArray, wcells_length _ _ hl]; exact size56)
theorem store47 (w : World) (a : Addr) (u : Value) (ad : Option Addr) (n cap : Nat) (hc : w.cell? a = some u) (hz : w.frozen? a = false) : (Instr.storeAt 57 (.pointer (some a)) (.slice ad n cap)).run Try.prog w = .ok () (w.setCell a (.slice ad n cap)) := by go_simp
theorem cells4 {w : World} {b : Nat} {x0 x1 x2 x3 : Value} {t : TypeId} (h : w.heap[b]? = some (.cells #[x0, x1, x2, x3] t (0, 0))) : w.cell? ⟨b, 0, none⟩ = some x0 ∧ w.cell? ⟨b, 1, none⟩ = some x1 ∧ w.cell? ⟨b, 2, none⟩ = some x2 ∧ w.cell? ⟨b, 3, none⟩ = some x3 := by simp [World.cell?, h]
theorem free4 {w : World} {b : Nat} {cs : Array Value} {t : TypeId} (h : w.heap[b]? = some (.cells cs t (0, 0))) (j : Nat) : w.frozen? ⟨b, j, none⟩ = false := by simp [World.frozen?, h]
section
variable {P : Program} {ops : Array Oper} {rest : List Oper} {o : Oper} {a : Act} {w : World} {Q : Exit → Act → World → Prop}
theorem wpList_move (hg : o.guard = none) (x : Operand) (ho : o.op = .move x) (v : Value) (hx : a.eval x = v) (k : wpList P ops Q rest (a.put o.dst v) w) : wpList P ops Q (o :: rest) a w :=
  wpList_plain hg fun K hK => by
    unfold Oper.wp execOp
    simp only [ho, hx, Sem.run_pure]
    exact hK _ _ k
theorem wpList_build (hg : o.guard = none) (t : TypeId) (j : Nat) (x : Operand) (ho : o.op = .build t #[(j, x)]) (vx : Value) (hx : a.eval x = vx) {v : Value} {w' : World} (h : (Instr.build t #[(j, vx)]).run P w = .ok v w') (k : wpList P ops Q rest (a.put o.dst v) w') : wpList P ops Q (o :: rest) a w :=
  wpList_plain hg fun K hK => by
    unfold Oper.wp execOp
    simp only [ho, hx, List.map_toArray, List.map_cons, List.map_nil, Sem.run_bind, Sem.run_pure, Result.andThen_ok, h]
    exact hK _ _ k
theorem wpList_alloc (hg : o.guard = none) (t : TypeId) (ho : o.op = .alloc t) {v : Value} {w' : World} (h : (Instr.alloc t true (.tuple #[])).run P w = .ok v w') (k : wpList P ops Q rest (a.put o.dst v) w') : wpList P ops Q (o :: rest) a w :=
  wpList_plain hg fun K hK => by
    unfold Oper.wp execOp
    simp only [ho, Sem.run_bind, Sem.run_pure, Result.andThen_ok, h]
    exact hK _ _ k
theorem wpList_store (hg : o.guard = none) (t : TypeId) (x y : Operand) (ho : o.op = .store t x y) (vx vy : Value) (hx : a.eval x = vx) (hy : a.eval y = vy) {w' : World} (h : (Instr.storeAt t vx vy).run P w = .ok () w') (k : wpList P ops Q rest (a.put o.dst undef) w') : wpList P ops Q (o :: rest) a w :=
  wpList_plain hg fun K hK => by
    unfold Oper.wp execOp
    simp only [ho, hx, hy, Sem.run_bind, Sem.run_pure, Result.andThen_ok, h]
    exact hK _ _ k
theorem step_load (hg : o.guard = none) (t : TypeId) (x : Operand) (ho : o.op = .load t x) (vx : Value) (hx : a.eval x = vx) {K : Act → World → Prop} {E : Prop} {v : Value} (h : (Instr.loadAt t vx).run P w = .ok v w) (hK : K (a.put o.dst v) w) :
    if Region.wanted o (yielded ops a.tmps) = true then Oper.wp P o a w K Q else E := by
  have hw : Region.wanted o (yielded ops a.tmps) = true := by simp [Region.wanted, hg]
  rw [if_pos hw]
  unfold Oper.wp execOp
  simp only [ho, hx, Sem.run_bind, Sem.run_pure, Result.andThen_ok, h]
  exact hK
theorem step_store (hg : o.guard = none) (t : TypeId) (x y : Operand) (ho : o.op = .store t x y) (vx vy : Value) (hx : a.eval x = vx) (hy : a.eval y = vy) {K : Act → World → Prop} {E : Prop} {w' : World} (h : (Instr.storeAt t vx vy).run P w = .ok () w') (hK : K (a.put o.dst undef) w') :
    if Region.wanted o (yielded ops a.tmps) = true then Oper.wp P o a w K Q else E := by
  have hw : Region.wanted o (yielded ops a.tmps) = true := by simp [Region.wanted, hg]
  rw [if_pos hw]
  unfold Oper.wp execOp
  simp only [ho, hx, hy, Sem.run_bind, Sem.run_pure, Result.andThen_ok, h]
  exact hK
theorem step_buildSlice (hg : o.guard = none) (t : TypeId) (n : Nat) (j : Nat) (x : Operand) (ho : o.op = .buildSlice t n #[(j, x)]) (vx : Value) (hx : a.eval x = vx) {K : Act → World → Prop} {E : Prop} {v : Value} {w' : World} (h : (Instr.buildSlice t n #[(j, vx)]).run P w = .ok v w') (hK : K (a.put o.dst v) w') :
    if Region.wanted o (yielded ops a.tmps) = true then Oper.wp P o a w K Q else E := by
  have hw : Region.wanted o (yielded ops a.tmps) = true := by simp [Region.wanted, hg]
  rw [if_pos hw]
  unfold Oper.wp execOp
  simp only [ho, hx, List.map_toArray, List.map_cons, List.map_nil, Sem.run_bind, Sem.run_pure, Result.andThen_ok, h]
  exact hK
end
end Go.Proofs.Ytilelklcfgemoaa
