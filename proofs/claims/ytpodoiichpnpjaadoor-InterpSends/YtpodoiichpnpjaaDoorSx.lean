/-
  Blocks that are stored and loaded whole, by their run equations. Over any program.
-/
import Derived.Test.YtpodoiichpnpjaaDoorRz
import Derived.Deep.MidRow
namespace Go.Proofs.YtpodoiichpnpjaaDoor
open Go.RowKit
set_option maxRecDepth 100000
set_option linter.unusedVariables false
theorem wpList_load_run {P : Program} {w : World} {ops : Array Oper} {rest : List Oper} {o : Oper} {a : Act} {Q : Exit → Act → World → Prop} (t : TypeId) (x : Operand)
    (hop : o.op = .load t x) (hg : o.guard = none) (vx : Value) (hx : a.eval x = vx) (v : Value) (hrun : (Instr.loadAt t vx).run P w = .ok v w)
    (h : wpList P ops Q rest (a.put o.dst v) w) : wpList P ops Q (o :: rest) a w := by
  refine wpList_plain hg fun K hK' => ?_
  unfold Oper.wp execOp
  simp only [hop, hx, Sem.run_bind, Sem.run_pure, Result.andThen_ok, hrun]
  exact hK' _ _ h
theorem wpList_alloc_run {P : Program} {w : World} {ops : Array Oper} {rest : List Oper} {o : Oper} {a : Act} {Q : Exit → Act → World → Prop} (t : TypeId)
    (hop : o.op = .alloc t) (hg : o.guard = none) (v : Value) (w' : World) (hrun : (Instr.alloc t true (.tuple #[])).run P w = .ok v w')
    (h : wpList P ops Q rest (a.put o.dst v) w') : wpList P ops Q (o :: rest) a w := by
  refine wpList_plain hg fun K hK' => ?_
  unfold Oper.wp execOp
  simp only [hop, Sem.run_bind, Sem.run_pure, Result.andThen_ok, hrun]
  exact hK' _ _ h
theorem wpList_store_run {P : Program} {w : World} {ops : Array Oper} {rest : List Oper} {o : Oper} {a : Act} {Q : Exit → Act → World → Prop} (t : TypeId) (x y : Operand)
    (hop : o.op = .store t x y) (hg : o.guard = none) (vx vy : Value) (hx : a.eval x = vx) (hy : a.eval y = vy) (w' : World) (hrun : (Instr.storeAt t vx vy).run P w = .ok () w')
    (h : wpList P ops Q rest (a.put o.dst undef) w') : wpList P ops Q (o :: rest) a w := by
  refine wpList_plain hg fun K hK' => ?_
  unfold Oper.wp execOp
  simp only [hop, hx, hy, Sem.run_bind, Sem.run_pure, Result.andThen_ok, hrun]
  exact hK' _ _ h
def sets (l : List Value) (o : Nat) : List Value → List Value
  | [] => l
  | v :: vs => sets (l.set o v) (o + 1) vs
theorem sets_eq (vs : List Value) : ∀ (l : List Value) (o : Nat), o + vs.length ≤ l.length → sets l o vs = l.take o ++ vs ++ l.drop (o + vs.length) := by
  induction vs with
  | nil => intro l o h; simp [sets]
  | cons v vs ih =>
    intro l o h
    rw [List.length_cons] at h
    rw [sets, ih _ _ (by rw [List.length_set]; omega), List.drop_set_of_lt (by omega), List.length_cons, show o + 1 + vs.length = o + (vs.length + 1) by omega]
    have : (l.set o v).take (o + 1) = l.take o ++ [v] := by
      rw [List.take_add_one, List.take_set_of_le (Nat.le_refl _), List.getElem?_set_self (by omega)]
      rfl
    rw [this]
    simp
theorem setCells_list {p : Nat} {t : TypeId} (vs : List Value) : ∀ {w : World} {o : Nat} {L : List Value}, w.heap[p]? = some (.cells L.toArray t (0, 0)) → (w.setCells p o vs).heap[p]? = some (.cells (sets L o vs).toArray t (0, 0)) := by
  induction vs with
  | nil => intro w o L h; exact h
  | cons v vs ih => intro w o L h; rw [World.setCells]; exact ih (set_list h)
theorem Kept.setCells {S : List Nat} {a : World} {p : Nat} (hp : p ∈ S ∨ a.heap.size ≤ p) (vs : List Value) : ∀ {w : World} (h : Kept S a w) (o : Nat), Kept S a (w.setCells p o vs) := by
  induction vs with
  | nil => intro w h o; exact h
  | cons v vs ih => intro w h o; rw [World.setCells]; exact ih (h.setCell (p := ⟨p, o, none⟩) hp v) (o + 1)
section
variable {P : Program} {w : World} {g : Nat} {t : TypeId} {L X : List Value}
/-- A block is stored whole. -/
theorem store_whole (hb : w.heap[g]? = some (.cells L.toArray t (0, 0))) (hl : X.length = L.length) (hi : (P.info? t).map (·.size) = some X.length) (h1 : ∀ v ∈ X, v.oneCell' = true) : ∃ W, (Instr.storeAt t (.pointer (some ⟨g, 0, none⟩)) (.agg X.toArray)).run P w = .ok () W ∧ W.heap[g]? = some (.cells X.toArray t (0, 0)) ∧ Kept [g] w W := by
  refine ⟨_, run_storeAt_mid w g 0 t X.toArray (fun j hj => ?_) (by rw [List.size_toArray]; exact hi) (all_oneCell_toArray h1), ?_, Kept.setCells (.inl (by simp)) _ (Kept.refl [g] w) 0⟩
  · rw [List.size_toArray, hl] at hj
    refine ⟨?_, by simp [World.frozen?, hb]⟩
    rw [Nat.zero_add, cell_list hb (List.getElem?_eq_getElem hj)]
    rfl
  · rw [setCells_list _ hb, sets_eq _ _ _ (by simp; omega)]
    simp [hl]
/-- A part of a block is loaded. -/
theorem load_mid (o : Nat) {pre : List Value} (hb : w.heap[g]? = some (.cells (pre ++ X).toArray t (0, 0))) (ho : pre.length = o) (ty : TypeId) (d : TypeDesc) (hd : (match d with | .struct _ | .array _ _ => true | _ => false) = true) (hu : P.underlying ty = some d) (hi : (P.info? ty).map (·.size) = some X.length) : (Instr.loadAt ty (.pointer (some ⟨g, o, none⟩))).run P w = .ok (.agg X.toArray) w := by
  subst ho
  refine run_loadAt_mid w g pre.length ty X d (fun j v hv => ?_) hu hd hi
  exact cell_list hb (by rw [List.getElem?_append_right (by omega), Nat.add_sub_cancel_left]; exact hv)
end
theorem box4 (w : World) (o0 o1 o2 o3 : Obj) : ∃ W, (((w.alloc o0).alloc o1).alloc o2).alloc o3 = W ∧ Kept [] w W ∧ W.heap.size = w.heap.size + 4 ∧ W.heap[w.heap.size]? = some o0 ∧ W.heap[w.heap.size + 1]? = some o1 ∧ W.heap[w.heap.size + 1 + 1]? = some o2 ∧ W.heap[w.heap.size + 1 + 1 + 1]? = some o3 := by
  refine ⟨_, rfl, ((((Kept.refl [] w).alloc _).alloc _).alloc _).alloc _, by simp, ?_, ?_, ?_, ?_⟩
  · rw [Below.heap_alloc _ _ _ (by simp <;> omega), Below.heap_alloc _ _ _ (by simp <;> omega), Below.heap_alloc _ _ _ (by simp)]; exact heap_alloc_new w _
  · rw [Below.heap_alloc _ _ _ (by simp <;> omega), Below.heap_alloc _ _ _ (by simp)]
    have := heap_alloc_new (w.alloc o0) o1
    simpa using this
  · rw [Below.heap_alloc _ _ _ (by simp)]
    have := heap_alloc_new ((w.alloc o0).alloc o1) o2
    simpa using this
  · have := heap_alloc_new (((w.alloc o0).alloc o1).alloc o2) o3
    simpa using this
theorem cellsR_one {reg : List Int} {ev sn tm : Value} {k : Nat} (h1 : ev.oneCell' = true) (h2 : sn.oneCell' = true) (h3 : tm.oneCell' = true) : ∀ v ∈ cellsR reg ev sn tm k, v.oneCell' = true := fun v hv => by
  rcases List.mem_append.1 hv with hv | hv
  · exact BI_one _ v hv
  · simp at hv
    rcases hv with rfl | rfl | rfl | rfl
    · exact h1
    · exact h2
    · exact h3
    · rfl
/-- What a cell says as a number. -/
def natAt (w : World) (p o : Nat) : Nat := match w.cell? ⟨p, o, none⟩ with
  | some (.int _ z) => z.toNat
  | _ => 0
theorem natAt_eq {w : World} {p o k : Nat} (h : w.cell? ⟨p, o, none⟩ = some (.int .i64 (k : Int))) : natAt w p o = k := by
  unfold natAt
  rw [h]
  exact Int.toNat_natCast k
end Go.Proofs.YtpodoiichpnpjaaDoor
