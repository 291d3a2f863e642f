import Derived.Deep.RegionHeld3
import Derived.Laws.Rows
import Derived.Laws.CopyRow
import Derived.Shelf.Pu.Clone
import Derived.Ground.MpProg
import Derived.Deep.Slices
import Derived.ChangeArms
import Derived.OpenShut
import Derived.SizedLaws
import Derived.Test.YthlemapneangeaaV02
import Derived.Test.YthlemapneangeaaV03
import Derived.Test.YthlemapneangeaaV04
/-
  Steps of a region by run equations; blocks of four cells. Over any program.
-/
namespace Go.Proofs.Ythlemapneangeaa
set_option maxRecDepth 100000
open Go.RowKit
set_option linter.unusedVariables false
theorem Kept.cell_eq {w w' : World} (k : Kept [] w w') {p : Addr} {u : Value} (h : w.cell? p = some u) : w'.cell? p = some u := by
  rw [k.cell (World.block_lt_of_cell? _ _ h) (by simp)]
  exact h
section
variable {P : Program} {w : World}
theorem wpList_append_run {ops : Array Oper} {rest : List Oper} {o : Oper} {a : Act} {Q : Exit → Act → World → Prop} (t u : TypeId) (sl x : Operand)
    (ho : o.op = .call { callee := .builtin .append, args := #[sl, x], argTypes := #[t, u] }) (hgd : Region.wanted o (yielded ops a.tmps) = true) (v y : Value) (hs : a.eval sl = v) (hx : a.eval x = y) (r : Value) (w' : World) (hrun : (Builtin.append_ #[t, u] o.type #[v, y]).run P w = .ok r w')
    (h : wpList P ops Q rest (a.put o.dst r) w') : wpList P ops Q (o :: rest) a w := by
  refine wpList_step fun K hK => ?_
  rw [if_pos hgd]
  unfold Oper.wp execOp
  simp only [ho, resolve, invoke, builtin, Sem.run_bind, Sem.run_pure, Result.andThen_ok, List.map_toArray, List.map_cons, List.map_nil, hs, hx, hrun]
  exact hK _ _ h
theorem step_append_run {ops : Array Oper} {o : Oper} {a : Act} {Q : Exit → Act → World → Prop} (t : TypeId) (sl x : Operand) (ho : o.op = .call { callee := .builtin .append, args := #[sl, x], argTypes := #[t, t] }) (hg : o.guard = none) (v y : Value) (hs : a.eval sl = v) (hx : a.eval x = y) {K : Act → World → Prop} {E : Prop} {r : Value} {w' : World} (hrun : (Builtin.append_ #[t, t] o.type #[v, y]).run P w = .ok r w') (hK : K (a.put o.dst r) w') :
    if Region.wanted o (yielded ops a.tmps) = true then Oper.wp P o a w K Q else E := by
  have hw : Region.wanted o (yielded ops a.tmps) = true := by simp [Region.wanted, hg]
  rw [if_pos hw]
  unfold Oper.wp execOp
  simp only [ho, resolve, invoke, builtin, Sem.run_bind, Sem.run_pure, Result.andThen_ok, List.map_toArray, List.map_cons, List.map_nil, hs, hx, hrun]
  exact hK
variable {b : Nat} {v0 v1 v2 v3 x : Value} {t : TypeId}
theorem cells4 (h : w.heap[b]? = some (.cells #[v0, v1, v2, v3] t (0, 0))) : w.cell? ⟨b, 0, none⟩ = some v0 ∧ w.cell? ⟨b, 1, none⟩ = some v1 ∧ w.cell? ⟨b, 2, none⟩ = some v2 ∧ w.cell? ⟨b, 3, none⟩ = some v3 := by simp [World.cell?, h]
theorem free4 (h : w.heap[b]? = some (.cells #[v0, v1, v2, v3] t (0, 0))) : w.frozen? ⟨b, 0, none⟩ = false ∧ w.frozen? ⟨b, 1, none⟩ = false ∧ w.frozen? ⟨b, 2, none⟩ = false ∧ w.frozen? ⟨b, 3, none⟩ = false := by simp [World.frozen?, h]
theorem set_at {cs : Array Value} {fz : Nat × Nat} {k : Nat} (h : w.heap[b]? = some (.cells cs t fz)) : (w.setCell ⟨b, k, none⟩ x).heap[b]? = some (.cells (cs.setIfInBounds k x) t fz) := by
  have hlt := lt_of_block h
  have h' : w.heap[b] = .cells cs t fz := by simpa [Array.getElem?_eq_getElem hlt] using h
  show (w.heap.modify b _)[b]? = _
  rw [Array.getElem?_eq_getElem (by simpa using hlt), Array.getElem_modify_self, h']
  rfl
theorem set4_0 (h : w.heap[b]? = some (.cells #[v0, v1, v2, v3] t (0, 0))) : (w.setCell ⟨b, 0, none⟩ x).heap[b]? = some (.cells #[x, v1, v2, v3] t (0, 0)) := set_at h
theorem set4_1 (h : w.heap[b]? = some (.cells #[v0, v1, v2, v3] t (0, 0))) : (w.setCell ⟨b, 1, none⟩ x).heap[b]? = some (.cells #[v0, x, v2, v3] t (0, 0)) := set_at h
theorem set4_2 (h : w.heap[b]? = some (.cells #[v0, v1, v2, v3] t (0, 0))) : (w.setCell ⟨b, 2, none⟩ x).heap[b]? = some (.cells #[v0, v1, x, v3] t (0, 0)) := set_at h
theorem set4_3 (h : w.heap[b]? = some (.cells #[v0, v1, v2, v3] t (0, 0))) : (w.setCell ⟨b, 3, none⟩ x).heap[b]? = some (.cells #[v0, v1, v2, x] t (0, 0)) := set_at h
theorem setCell_other {k : Nat} (h : w.heap[b]? = w.heap[b]?) {c : Nat} (hc : c ≠ b) : (w.setCell ⟨b, k, none⟩ x).heap[c]? = w.heap[c]? := Below.heap_setCell w ⟨b, k, none⟩ x c (by exact hc)
theorem box1 (w : World) (o : Obj) : ∃ W, w.alloc o = W ∧ Kept [] w W ∧ W.heap.size = w.heap.size + 1 ∧ W.heap[w.heap.size]? = some o := ⟨_, rfl, (Kept.refl [] w).alloc _, by simp, heap_alloc_new w _⟩
theorem box2 (w : World) (o o' : Obj) : ∃ W, (w.alloc o).alloc o' = W ∧ Kept [] w W ∧ W.heap.size = w.heap.size + 2 ∧ W.heap[w.heap.size]? = some o ∧ W.heap[w.heap.size + 1]? = some o' := by
  refine ⟨_, rfl, ((Kept.refl [] w).alloc _).alloc _, by simp, ?_, ?_⟩
  · rw [Below.heap_alloc _ _ _ (by simp)]; exact heap_alloc_new w _
  · have := heap_alloc_new (w.alloc o) o'
    simpa using this
/-- A struct of four cells that is stored whole. -/
theorem put4 (h : w.heap[b]? = some (.cells #[v0, v1, v2, v3] t (0, 0))) (x0 x1 x2 x3 : Value) : ∃ W, (((w.setCell ⟨b, 0, none⟩ x0).setCell ⟨b, 1, none⟩ x1).setCell ⟨b, 2, none⟩ x2).setCell ⟨b, 3, none⟩ x3 = W ∧ Kept [b] w W ∧ W.heap[b]? = some (.cells #[x0, x1, x2, x3] t (0, 0)) ∧ W.heap.size = w.heap.size :=
  ⟨_, rfl, ((((Kept.refl [b] w).setCell (p := ⟨b, 0, none⟩) (.inl (by simp)) x0).setCell (p := ⟨b, 1, none⟩) (.inl (by simp)) x1).setCell (p := ⟨b, 2, none⟩) (.inl (by simp)) x2).setCell (p := ⟨b, 3, none⟩) (.inl (by simp)) x3, set4_3 (set4_2 (set4_1 (set4_0 h))), by simp⟩
theorem results_cell_row2 {fn : Func} {p u : Tmp} {ty : TypeId} (h : fn.results = #[.cell p ty, .tmp u]) (tmps : Array Value) (w : World) (g : Nat) (t : TypeId) (cs : Array Value) (fr : Nat × Nat) (d : TypeDesc)
    (hp : tmps.getD p undef = .pointer (some ⟨g, 0, none⟩)) (hg : w.heap[g]? = some (.cells cs t fr)) (hu : P.underlying ty = some d) (hd : (match d with | .struct _ | .array _ _ => true | _ => false) = true) (hi : (P.info? ty).map (·.size) = some cs.size) (r : Value) (hr : tmps.getD u undef = r) :
    (results fn tmps).run P w = .ok (.tuple #[.agg cs, r]) w := by
  have hp' : tmps[p]?.getD undef = .pointer (some ⟨g, 0, none⟩) := by simpa using hp
  have hr' : tmps[u]?.getD undef = r := by simpa using hr
  simp [results, h, hp', hr', asAddr, run_loadVar_row w g t ty cs fr d hg hu hd hi]
end
end Go.Proofs.Ythlemapneangeaa
/-
  Steps of a region by run equations; blocks of cells; copy of rows. Over any program.
-/
namespace Go.Proofs.Ythlemapneangeaa
set_option maxRecDepth 100000
open Go.RowKit
set_option linter.unusedVariables false
theorem Kept.setRow {S : List Nat} {a w : World} (h : Kept S a w) {g : Nat} (hp : g ∈ S ∨ a.heap.size ≤ g) (cs : Array Value) : Kept S a (w.setRow g cs) :=
  ⟨h.os, h.tape, h.output, by simpa [World.setRow] using h.size, fun k hk hn => by
    rw [setRow_other w g k cs (fun e => by subst e; rcases hp with h1 | h1; exact hn h1; omega)]; exact h.block k hk hn⟩
section
variable {P : Program} {w : World}
variable {b : Nat} {v0 v1 v2 v3 x : Value} {t : TypeId}
end
section
variable {P : Program}
theorem run_copy_rowK (w : World) (dT sT ty elem : TypeId) (k g o dLen dCap : Nat) (a : Addr) (sLen sCap : Nat) (cur : Array Value) (t : TypeId) (cs : List Value)
    (hu : P.underlying dT = some (.slice elem)) (hs : (P.info? elem).map (·.size) = some k)
    (hg : w.heap[g]? = some (.cells cur t (0, 0))) (hn : cs.length = Nat.min sLen dLen * k)
    (hsrc : ∀ j v, cs[j]? = some v → w.cell? (a.add j) = some v) (hfit : o + cs.length ≤ cur.size) (h1 : ∀ v ∈ cs, v.oneCell' = true) :
    (Builtin.copy_ #[dT, sT] ty #[.slice (some ⟨g, o, none⟩) dLen dCap, .slice (some a) sLen sCap]).run P w =
      .ok (goInt (Nat.min sLen dLen)) (w.setRow g (cur.toList.take o ++ cs ++ cur.toList.drop (o + cs.length)).toArray) := by
  have hl := run_loadCells_list (P := P) w a cs hsrc
  have hst := run_storeCells_at P g o t cs 0 cur w hg (by simpa using hfit) h1
  cases hq : P.info? elem with
  | none => simp [hq] at hs
  | some i =>
    have hi : i.size = k := by simpa [hq] using hs
    simp [Builtin.copy_, run_underlying hu, Builtin.lenOf, Builtin.firstCells, sizeOf, typeInfo, hq, hi, ← hn, hl, hst]
theorem step_copy_run {w : World} {ops : Array Oper} {o : Oper} {a : Act} {Q : Exit → Act → World → Prop} (dT sT : TypeId) (d s : Operand) (ho : o.op = .call { callee := .builtin .copy, args := #[d, s], argTypes := #[dT, sT] }) (hg : o.guard = none) (v y : Value) (hs : a.eval d = v) (hx : a.eval s = y) {K : Act → World → Prop} {E : Prop} {r : Value} {w' : World} (hrun : (Builtin.copy_ #[dT, sT] o.type #[v, y]).run P w = .ok r w') (hK : K (a.put o.dst r) w') :
    if Region.wanted o (yielded ops a.tmps) = true then Oper.wp P o a w K Q else E := by
  have hw : Region.wanted o (yielded ops a.tmps) = true := by simp [Region.wanted, hg]
  rw [if_pos hw]
  unfold Oper.wp execOp
  simp only [ho, resolve, invoke, builtin, Sem.run_bind, Sem.run_pure, Result.andThen_ok, List.map_toArray, List.map_cons, List.map_nil, hs, hx, hrun]
  exact hK
theorem wpList_copy_run {w : World} {ops : Array Oper} {rest : List Oper} {o : Oper} {a : Act} {Q : Exit → Act → World → Prop} (dT sT : TypeId) (d s : Operand)
    (ho : o.op = .call { callee := .builtin .copy, args := #[d, s], argTypes := #[dT, sT] }) (hgd : o.guard = none) (v y : Value) (hs : a.eval d = v) (hx : a.eval s = y) (r : Value) (w' : World) (hrun : (Builtin.copy_ #[dT, sT] o.type #[v, y]).run P w = .ok r w')
    (h : wpList P ops Q rest (a.put o.dst r) w') : wpList P ops Q (o :: rest) a w := by
  refine wpList_plain hgd fun K hK => ?_
  unfold Oper.wp
  simp [execOp, ho, resolve, invoke, builtin, hs, hx, hrun, Result.andThen]
  exact hK _ _ h
theorem run_copy_noneK (w : World) (dT sT ty elem : TypeId) (k : Nat) (d a : Option Addr) (dLen dCap sLen sCap : Nat) (hu : P.underlying dT = some (.slice elem)) (hs : (P.info? elem).map (·.size) = some k) (hn : Nat.min sLen dLen = 0) :
    (Builtin.copy_ #[dT, sT] ty #[.slice d dLen dCap, .slice a sLen sCap]).run P w = .ok (goInt 0) w := by
  cases hq : P.info? elem with
  | none => simp [hq] at hs
  | some i =>
    have hl : ∀ (x : Addr), (loadCells x 0).run P w = .ok #[] w := fun x => by simpa using run_loadCells_list (P := P) w x [] (by simp)
    cases d <;> cases a <;> simp [Builtin.copy_, run_underlying hu, Builtin.lenOf, Builtin.firstCells, sizeOf, typeInfo, hq, hn, storeCells, hl]
end
theorem set_list {w : World} {p k : Nat} {L : List Value} {t : TypeId} {x : Value} (h : w.heap[p]? = some (.cells L.toArray t (0, 0))) : (w.setCell ⟨p, k, none⟩ x).heap[p]? = some (.cells (L.set k x).toArray t (0, 0)) := by
  have := set_at (x := x) (k := k) h
  rwa [List.setIfInBounds_toArray] at this
theorem ownsR_block {w : World} {g n : Nat} {e : TypeId} {k : Nat} {rs : List (List Value)} (h : w.heap[g]? = some (.cells rs.flatten.toArray e (0, 0))) (hw : Wide k rs) (hn : rs.length = n) (hl : n ≤ maxLen) : OwnsR e k w (.slice (some ⟨g, 0, none⟩) n n) rs := by
  subst hn
  refine ⟨hw.flat_length, .inr ⟨g, _, _, rfl, Nat.zero_le _, h, Nat.le_refl _, hl, ?_, ?_⟩⟩
  · rw [List.size_toArray, hw.flat_length]
  · exact List.take_of_length_le (by rw [List.toList_toArray, hw.flat_length]; exact Nat.le_refl _)
theorem own_apart {e e' : TypeId} {k k' : Nat} {w : World} {v v' : Value} {rs rs' : List (List Value)} (h : OwnsR e k w v rs) (h' : OwnsR e' k' w v' rs') (hne : e ≠ e') {g : Nat} (hg : v.ownBlock = some g) : v'.ownBlock ≠ some g := by
  intro hg'
  rcases h.2 with ⟨rfl, _⟩ | ⟨g1, cap, cur, rfl, _, hb, _⟩
  · simp [Value.ownBlock] at hg
  · rcases h'.2 with ⟨rfl, _⟩ | ⟨g2, cap', cur', rfl, _, hb', _⟩
    · simp [Value.ownBlock] at hg'
    · simp [Value.ownBlock] at hg hg'
      subst hg hg'
      rw [hb] at hb'
      injection hb' with hb'
      injection hb' with _ hb' _
      exact hne hb'
section
variable {w : World}
theorem ownsR_ne {e : TypeId} {k : Nat} {v : Value} {rs : List (List Value)} (h : OwnsR e k w v rs) {p : Nat} {cs : Array Value} {t : TypeId} {fz : Nat × Nat} (hp : w.heap[p]? = some (.cells cs t fz)) (ht : t ≠ e) : v.ownBlock ≠ some p := fun hg => by
  rcases h.2 with ⟨rfl, _⟩ | ⟨g1, cap, cur, rfl, _, hb, _⟩
  · simp [Value.ownBlock] at hg
  · simp [Value.ownBlock] at hg
    subst hg
    rw [hb] at hp
    injection hp with hp
    injection hp with _ hp _
    exact ht hp.symm
theorem box_ne {p p' : Nat} {cs cs' : Array Value} {t t' : TypeId} {fz fz' : Nat × Nat} (h : w.heap[p]? = some (.cells cs t fz)) (h' : w.heap[p']? = some (.cells cs' t' fz')) (ht : t ≠ t') : p ≠ p' := fun e => by
  subst e
  rw [h] at h'
  injection h' with h'
  injection h' with _ h' _
  exact ht h'
end
end Go.Proofs.Ythlemapneangeaa
/-
  strings.Clone, and Copy of a letter.
-/
namespace Go.Proofs.Ythlemapneangeaa
set_option maxRecDepth 100000
open Go.RowKit Go.Shelf
set_option linter.unusedVariables false
def cloneS_ren : Go.Shelf.Ren := ⟨fun | 25 => 64 | n => n, fun | 9 => 9 | 3 => 3 | 4 => 4 | 37 => 34 | 0 => 0 | 47 => 129 | 5 => 5 | n => n, fun | n => n⟩
theorem cloneS : Go.Proofs.LaysPu.n25 Try.prog cloneS_ren := {
  mixed := by kernel_rfl
  f25 := Try.func64.trans (congrArg some (by kernel_rfl))
  t0 := Try.underlying0
  a0 := Try.isAgg0
  z0 := Try.sizeOf0
  v0 := Try.zeroValue0
  i0 := by kernel_rfl
  t3 := Try.underlying3
  a3 := Try.isAgg3
  z3 := Try.sizeOf3
  v3 := Try.zeroValue3
  i3 := by kernel_rfl
  t4 := Try.underlying4
  a4 := Try.isAgg4
  z4 := Try.sizeOf4
  v4 := Try.zeroValue4
  i4 := by kernel_rfl
  t5 := Try.underlying5
  a5 := Try.isAgg5
  z5 := Try.sizeOf5
  v5 := Try.zeroValue5
  i5 := by kernel_rfl
  t9 := Try.underlying9
  a9 := Try.isAgg9
  z9 := Try.sizeOf9
  v9 := Try.zeroValue9
  i9 := by kernel_rfl
  t37 := Try.underlying34
  a37 := Try.isAgg34
  z37 := Try.sizeOf34
  v37 := Try.zeroValue34
  i37 := by kernel_rfl
  t47 := Try.underlying129
  a47 := Try.isAgg129
  z47 := Try.sizeOf129
  v47 := Try.zeroValue129
  i47 := by kernel_rfl }
section
variable {w : World}
set_option maxHeartbeats 1000000 in
theorem clone32 (s : List UInt8) (hs : s.length ≤ 281474976710656) : Calls Try.prog 27 #[Sv s] w fun e w' => e = .returned (Sv s) ∧ Kept [] w w' := by
  have h : Calls Try.prog 64 #[Sv s] w fun e w' => e = .returned (Sv s) ∧ Below w.heap.size w w' := AnyPu.stringslite_Clone cloneS ⟨s.toArray⟩ w (by simpa [ByteArray.size] using hs)
  go_enter Try.func27, Try.ntmps27
  go_wp2_with (go_at_call 64; refine h.mono ?_; rintro e w1 ⟨rfl, hb⟩)
  go_ret
  exact ⟨rfl, ⟨hb.os, hb.tape, hb.output, hb.size, fun k hk _ => hb.block k hk⟩⟩
set_option maxRecDepth 100000 in
set_option maxHeartbeats 1000000 in
/-- Copy: the same letter, its Args in new memory. -/
theorem copy17 (x : Lt) (a : Option Addr) (c : Nat) (hx : ReadsJ w (.slice a x.args.length c) x.args) (hs : x.fr.length ≤ 100000) (hl : x.args.length ≤ 100000) :
    Calls Try.prog 61 #[Lv x a c] w fun e w' => ∃ a' c', e = .returned (Lv x a' c') ∧ OwnsJ w' (.slice a' x.args.length c') x.args ∧ Kept [] w w' ∧ Fresh w (.slice a' x.args.length c') := by
  have HC : Hid (∀ W, Calls Try.prog 27 #[Sv x.fr] W fun e w' => e = .returned (Sv x.fr) ∧ Kept [] W w') := fun W => clone32 x.fr (by omega)
  have HX := Hid.mk hx
  clear hx
  go_enter Try.func61, Try.ntmps61
  go_wp2_with fail
  obtain ⟨W0, e0, k0, hz0, hb0, hb1⟩ := box2 w (.cells #[Sv x.fr, .int .u64 (x.ser : Int), .int .i64 x.kind, .slice a x.args.length c] 46) (.cells #[.string { data := #[] }, .int .u64 0, .int .i64 0, .slice none 0 0] 46)
  rw [e0]
  clear e0
  refine (HC.out _).mono ?_
  rintro e w1 ⟨rfl, k1⟩
  have hb2 := k1.keeps hb0 (by simp)
  have hb3 := k1.keeps hb1 (by simp)
  have k2 := k0.trans k1 (by simp)
  have hz2 := k1.size
  have hz3 : w.heap.size + 2 ≤ w1.heap.size := by omega
  have HZ := Hid.mk hz3
  clear hz3 hz2 hz0 hb0 hb1
  obtain ⟨c0, -, -, c3⟩ := cells4 hb2
  obtain ⟨f0, -, -, f3⟩ := free4 hb2
  have k3 : Kept [] w (w1.setCell ⟨w.heap.size, 0, none⟩ (Sv x.fr)) := k2.setCell (.inr (Nat.le_refl _)) _
  have hb4 := set4_0 (x := Sv x.fr) hb2
  obtain ⟨a2, c2, w2, hrun, ho, hg, hN⟩ := run_appendR rt23 (w1.setCell ⟨w.heap.size, 0, none⟩ (Sv x.fr)) 44 (.slice none 0 0) [] (OwnsR.nil 2 1 _) _ (CJ x.args) (CJ_wide _) (HX.out.kept k3 (by simp)) (by rw [CJ_length]; simp; omega)
  rw [List.nil_append, List.length_nil, Nat.zero_add, CJ_length] at *
  have hz4 : w.heap.size + 2 ≤ w2.heap.size := by
    have := hg.size
    have h := HZ.out
    simp at this
    omega
  have hb5 : w2.heap[w.heap.size]? = _ := (hg.block w.heap.size (by have := HZ.out; simp; omega) (by simp [Value.ownBlock])).trans hb4
  have hb6 : w2.heap[w.heap.size + 1]? = _ := (hg.block (w.heap.size + 1) (by have := HZ.out; simp; omega) (by simp [Value.ownBlock])).trans ((setCell_other (b := w.heap.size) (k := 0) rfl (by omega)).trans hb3)
  have k4 : Kept [] w w2 := k3.grown hg (by simp [Value.ownBlock])
  obtain ⟨c4, c5, c6, c7⟩ := cells4 hb5
  obtain ⟨f4, f5, f6, f7⟩ := free4 hb5
  obtain ⟨d4, d5, d6, d7⟩ := cells4 hb6
  obtain ⟨g4, g5, g6, g7⟩ := free4 hb6
  go_wp2_with (at_builtin; refine wpList_append_run 44 44 _ _ rfl (by rfl) _ _ rfl rfl _ _ hrun ?_)
  have h8 := set4_3 (x := .slice a2 x.args.length c2) (set4_2 (x := .int .i64 x.kind) (set4_1 (x := .int .u64 (x.ser : Int)) (set4_0 (x := Sv x.fr) ((setCell_other (w := w2) (b := w.heap.size) (k := 3) (x := .slice a2 x.args.length c2) rfl (by omega : w.heap.size + 1 ≠ w.heap.size)).trans hb6))))
  have k8 := ((((k4.setCell (p := ⟨w.heap.size, 3, none⟩) (.inr (Nat.le_refl _)) (.slice a2 x.args.length c2)).setCell (p := ⟨w.heap.size + 1, 0, none⟩) (.inr (Nat.le_succ _)) (Sv x.fr)).setCell (p := ⟨w.heap.size + 1, 1, none⟩) (.inr (Nat.le_succ _)) (.int .u64 (x.ser : Int))).setCell (p := ⟨w.heap.size + 1, 2, none⟩) (.inr (Nat.le_succ _)) (.int .i64 x.kind)).setCell (p := ⟨w.heap.size + 1, 3, none⟩) (.inr (Nat.le_succ _)) (.slice a2 x.args.length c2)
  have hfr : ∀ g, (Value.slice a2 x.args.length c2).ownBlock = some g → w.heap.size + 2 ≤ g := fun g hg' => by
    rcases hN g hg' with h | h
    · simp [Value.ownBlock] at h
    · have := HZ.out
      simp at h
      omega
  have kT : Kept [w.heap.size, w.heap.size + 1] w2 _ := ((((((Kept.refl [w.heap.size, w.heap.size + 1] w2).setCell (p := ⟨w.heap.size, 3, none⟩) (.inl (by simp)) (.slice a2 x.args.length c2)).setCell (p := ⟨w.heap.size + 1, 0, none⟩) (.inl (by simp)) (Sv x.fr)).setCell (p := ⟨w.heap.size + 1, 1, none⟩) (.inl (by simp)) (.int .u64 (x.ser : Int))).setCell (p := ⟨w.heap.size + 1, 2, none⟩) (.inl (by simp)) (.int .i64 x.kind)).setCell (p := ⟨w.heap.size + 1, 3, none⟩) (.inl (by simp)) (.slice a2 x.args.length c2))
  refine bodyPost_ret (results_cell_row (p := 2) (ty := 46) rfl _ _ (w.heap.size + 1) 46 _ (0, 0) _ rfl h8 Try.underlying46 rfl (by kernel_rfl)) rfl ?_
  refine ⟨a2, c2, rfl, OwnsR.kept ho kT (fun g hg' hm => ?_), k8, fun g hg' => by have := hfr g hg'; omega⟩
  have := hfr g hg'
  simp at hm
  omega
set_option maxRecDepth 100000 in
set_option maxHeartbeats 1000000 in
/-- The document's Copy. -/
theorem copy25 (x : Lt) (a : Option Addr) (c : Nat) (hx : ReadsJ w (.slice a x.args.length c) x.args) (hl : x.args.length ≤ 100000) :
    Calls Try.prog 66 #[Lv x a c] w fun e w' => ∃ a' c', e = .returned (Lv x a' c') ∧ OwnsJ w' (.slice a' x.args.length c') x.args ∧ Kept [] w w' ∧ Fresh w (.slice a' x.args.length c') := by
  have HX := Hid.mk hx
  clear hx
  go_enter Try.func66, Try.ntmps66
  obtain ⟨W0, e0, k0, hz0, hb0, hb1⟩ := box2 w (.cells #[Sv x.fr, .int .u64 (x.ser : Int), .int .i64 x.kind, .slice a x.args.length c] 46) (.cells #[.string { data := #[] }, .int .u64 0, .int .i64 0, .slice none 0 0] 46)
  have hO : OwnsR 2 1 (W0.alloc (.cells #[] 2)) (.slice (some ⟨w.heap.size + 2, 0, none⟩) 0 0) [] := by
    have := World.ownsRow_made (base := 0) (e := 2) (size := 1) W0 #[] 0 (Nat.zero_le _) (by simp) (by simp)
    rw [hz0] at this
    exact this
  have k1 := k0.alloc (.cells #[] 2)
  have hb2 : (W0.alloc (.cells #[] 2)).heap[w.heap.size]? = _ := (Below.heap_alloc _ _ _ (by omega)).trans hb0
  have hb3 : (W0.alloc (.cells #[] 2)).heap[w.heap.size + 1]? = _ := (Below.heap_alloc _ _ _ (by omega)).trans hb1
  have HZ : Hid (w.heap.size + 3 = (W0.alloc (.cells #[] 2)).heap.size) := Hid.mk (by simp [hz0])
  rw [← e0] at hO k1 hb2 hb3 HZ
  clear e0 hb0 hb1 hz0 k0
  generalize hW1 : ((w.alloc (.cells #[Sv x.fr, .int .u64 (x.ser : Int), .int .i64 x.kind, .slice a x.args.length c] 46)).alloc (.cells #[.string { data := #[] }, .int .u64 0, .int .i64 0, .slice none 0 0] 46)).alloc (.cells #[] 2) = W1 at hO k1 hb2 hb3 HZ
  obtain ⟨a2, c2, w2, hrun, ho, hg, hN⟩ := run_appendR rt23 W1 44 _ [] hO _ (CJ x.args) (CJ_wide _) (HX.out.kept k1 (by simp)) (by rw [CJ_length]; simp; omega)
  rw [List.nil_append, List.length_nil, Nat.zero_add, CJ_length] at *
  rw [← hW1] at hrun
  have hz4 : Hid (w.heap.size + 3 ≤ w2.heap.size) := by
    have := hg.size
    have h := HZ.out
    show _ ≤ _
    omega
  have hb5 : w2.heap[w.heap.size]? = _ := (hg.block w.heap.size (by have := HZ.out; omega) (by simp [Value.ownBlock])).trans hb2
  have hb6 : w2.heap[w.heap.size + 1]? = _ := (hg.block (w.heap.size + 1) (by have := HZ.out; omega) (by simp [Value.ownBlock])).trans hb3
  have k4 : Kept [] w w2 := k1.grown hg (by simp [Value.ownBlock])
  have hfr : Hid (∀ g, (Value.slice a2 x.args.length c2).ownBlock = some g → w.heap.size + 2 ≤ g) := fun g hg' => by
    rcases hN g hg' with h | h
    · simp [Value.ownBlock] at h; omega
    · have := HZ.out
      omega
  clear hW1 hO hb2 hb3 k1 hg hN HZ
  obtain ⟨c4, c5, c6, c7⟩ := cells4 hb5
  obtain ⟨f4, f5, f6, f7⟩ := free4 hb5
  obtain ⟨d4, d5, d6, d7⟩ := cells4 hb6
  obtain ⟨g4, g5, g6, g7⟩ := free4 hb6
  go_wp2_with (at_builtin; refine wpList_append_run 44 44 _ _ rfl (by rfl) _ _ rfl rfl _ _ hrun ?_)
  have h7 := (setCell_other (w := w2) (b := w.heap.size) (k := 3) (x := .slice a2 x.args.length c2) rfl (by omega : w.heap.size + 1 ≠ w.heap.size)).trans hb6
  have k7 := k4.setCell (p := ⟨w.heap.size, 3, none⟩) (.inr (Nat.le_refl _)) (.slice a2 x.args.length c2)
  have kT7 := (Kept.refl [w.heap.size, w.heap.size + 1] w2).setCell (p := ⟨w.heap.size, 3, none⟩) (.inl (by simp)) (.slice a2 x.args.length c2)
  obtain ⟨W8, e8, k8, h8, -⟩ := put4 h7 (Sv x.fr) (.int .u64 (x.ser : Int)) (.int .i64 x.kind) (.slice a2 x.args.length c2)
  have kT8 := kT7.trans k8 (by simp)
  rw [e8]
  refine bodyPost_ret (results_cell_row (p := 2) (ty := 46) rfl _ _ (w.heap.size + 1) 46 _ (0, 0) _ rfl h8 Try.underlying46 rfl (by kernel_rfl)) rfl ?_
  refine ⟨a2, c2, rfl, OwnsR.kept ho kT8 (fun g hg' hm => ?_), k7.trans k8 (by simp), fun g hg' => by have := hfr.out g hg'; omega⟩
  have := hfr.out g hg'
  simp at hm
  omega
end
end Go.Proofs.Ythlemapneangeaa
/-
  lay: a letter's bytes behind those that a Writer has.
-/
namespace Go.Proofs.Ythlemapneangeaa
set_option maxRecDepth 100000
open Go.RowKit
set_option linter.unusedVariables false
section
variable {w : World}
theorem Laid.next {w w1 w2 : World} {p : Nat} {v v1 : Value} {l1 l2 : List UInt8} (h : IsW 113 5 w1 p v1 l1 ∧ Kept (foot p v) w w1 ∧ New w v v1) (h2 : Laid 113 5 w1 p v1 l2 w2) : Laid 113 5 w p v l2 w2 := Laid.trans h.2.1 h.2.2 h2
theorem ReadsJ.kept3 {S : List Nat} {w w' : World} {v : Value} {l : List Int} (h : ReadsJ w v l) (k : Kept S w w') (hn : l ≠ [] → ∀ g, v.ownBlock = some g → g ∉ S) : ReadsJ w' v l := by
  by_cases hl : l = []
  · subst hl
    obtain ⟨a, cap, h1, h2, h3, h4, h5⟩ := h
    exact ⟨a, cap, h1, h2, h3, h4, fun h => absurd rfl h⟩
  · exact h.kept k (hn hl)
theorem ReadsJ.ltg {w : World} {v : Value} {l : List Int} (h : ReadsJ w v l) (hl : l ≠ []) {g : Nat} (hg : v.ownBlock = some g) : g < w.heap.size := by
  obtain ⟨g', h1, h2⟩ := h.lt hl
  rw [hg] at h1
  cases h1
  exact h2
theorem encJ_take (l : List Int) (j : Nat) (z : Int) (h : l[j]? = some z) : encJ (l.take (j + 1)) = encJ (l.take j) ++ enc (fold z) := by
  rw [List.take_add_one, h, encJ_append]
  simp [encJ]
set_option maxRecDepth 100000 in
set_option maxHeartbeats 1000000 in
theorem lay27 (p : Nat) (v : Value) (l : List UInt8) (x : Lt) (a : Option Addr) (c : Nat) (hW : IsW 113 5 w p v l) (hx : ReadsJ w (.slice a x.args.length c) x.args) (ha : x.args ≠ [] → ∀ g, (Value.slice a x.args.length c).ownBlock = some g → g ∉ foot p v) (hok : x.ok)
    (hb : l.length + x.fr.length + 9 * x.args.length + 45 ≤ 140737488355328) :
    Calls Try.prog 70 #[.pointer (some ⟨p, 0, none⟩), Lv x a c] w fun e w' => e = .returned (.tuple #[]) ∧ Laid 113 5 w p v (l ++ encL x) w' := by
  have e1 := enc_length x.fr.length
  have e2 := enc_length x.ser
  have e3 := enc_length (fold x.kind)
  have e4 := enc_length x.args.length
  have hs : Hid ((⟨x.fr.toArray⟩ : ByteArray).size = x.fr.length) := Hid.mk (by simp [ByteArray.size])
  obtain ⟨-, hac, hcc⟩ := hx.bound
  have HX := Hid.mk hx
  clear hx
  have hfl := fold_lt x.kind hok.kind.1 hok.kind.2
  have hplt := hW.lt
  have hser := hok.ser
  go_enter Try.func70, Try.ntmps70
  go_wp2_with fail
  obtain ⟨W0, e0, k0, hz0, hb0⟩ := box1 w (.cells #[Sv x.fr, .int .u64 (x.ser : Int), .int .i64 x.kind, .slice a x.args.length c] 46)
  rw [e0]
  clear e0
  have hW0 := hW.kept k0 (by simp) (by simp)
  have HB : Hid (∀ W, Kept (foot p v) W0 W → W.heap[w.heap.size]? = some (.cells #[Sv x.fr, .int .u64 (x.ser : Int), .int .i64 x.kind, .slice a x.args.length c] 46 (0, 0))) := fun W k => k.keeps hb0 (fun hm => by
    rcases mem_foot.1 hm with h | h
    · omega
    · have := hW.own.lt h; omega)
  have HA : Hid (∀ W, Kept (foot p v) W0 W → ReadsJ W (.slice a x.args.length c) x.args) := fun W k => HX.out.kept3 ((k0.mono (by simp)).trans k (fun x hx => .inl hx)) ha
  have HE : Hid (∀ W, Laid 113 5 W0 p v (l ++ encL x) W → Laid 113 5 w p v (l ++ encL x) W) := fun W h => Laid.trans (k0.mono (by simp)) (New.refl w v) h
  clear hb0 hz0 hplt k0 hW HX
  refine (wtext_any p v l ⟨x.fr.toArray⟩ W0 hW0 (by rw [hs.out]; omega)).mono ?_
  rintro e w1 ⟨rfl, v1, hW1, k1, n1⟩
  rw [hs.out] at hW1
  change IsW 113 5 w1 p v1 (l ++ enc x.fr.length ++ x.fr) at hW1
  obtain ⟨c0, c1, c2, c3⟩ := cells4 (HB.out _ k1)
  go_wp2_with fail
  refine (wnum_any p v1 _ x.ser w1 hW1 hser (by simp only [List.length_append]; omega)).mono ?_
  rintro e w2 ⟨rfl, L2⟩
  obtain ⟨v2, hW2, k2, n2⟩ := Laid.trans k1 n1 L2
  clear L2 hW1 k1 n1 c0 c1 c2 c3
  obtain ⟨c0, c1, c2, c3⟩ := cells4 (HB.out _ k2)
  go_wp2_with fail
  refine (wint_any p v2 _ x.kind w2 hW2 hok.kind.1 hok.kind.2 (by simp only [List.length_append]; omega)).mono ?_
  rintro e w3 ⟨rfl, L3⟩
  obtain ⟨v3, hW3, k3, n3⟩ := Laid.trans k2 n2 L3
  clear L3 hW2 k2 n2 c0 c1 c2 c3
  obtain ⟨c0, c1, c2, c3⟩ := cells4 (HB.out _ k3)
  go_wp2_with fail
  refine (wnum_any p v3 _ x.args.length w3 hW3 (by omega) (by simp only [List.length_append]; omega)).mono ?_
  rintro e w4 ⟨rfl, L4⟩
  have L4 := Laid.trans k3 n3 L4
  obtain ⟨v4, hW4, k4, n4⟩ := id L4
  clear hW3 k3 n3 c0 c1 c2 c3
  obtain ⟨c0, c1, c2, c3⟩ := cells4 (HB.out _ k4)
  go_wp2_with fail
  clear c0 c1 c2 c3 hW4 k4 n4
  go_loopw [27] (fun i wr => ∃ j : Nat, i = .int .i64 (j : Int) ∧ j ≤ x.args.length ∧ Laid 113 5 W0 p v (l ++ enc x.fr.length ++ x.fr ++ enc x.ser ++ enc (fold x.kind) ++ enc x.args.length ++ encJ (x.args.take j)) wr) (fun i _ => x.args.length - (intOf i).toNat)
  case atStart => exact ⟨0, rfl, by omega, by simpa [encJ] using L4⟩
  case round =>
    obtain ⟨j, rfl, hj, v5, hW5, k5, n5⟩ := hrel
    by_cases hlt : j < x.args.length
    · obtain ⟨z, hz⟩ : ∃ z, x.args[j]? = some z := ⟨_, List.getElem?_eq_getElem hlt⟩
      obtain ⟨b, o, rfl, hcell⟩ := (HA.out _ k5).at hz
      have hzk := hok.args z (List.mem_of_getElem? hz)
      have HZ := Hid.mk hz
      have hjI : (j : Int) < (x.args.length : Int) := by omega
      have hlj := encJ_length (x.args.take j)
      rw [List.length_take] at hlj
      clear hz
      go_wp2_with fail
      refine (wint_any p v5 _ z _ hW5 hzk.1 hzk.2 (by simp only [List.length_append]; omega)).mono ?_
      rintro e w6 ⟨rfl, L6⟩
      have L6 := Laid.trans k5 n5 L6
      go_wp2_with fail
      go_roundw
      case rel =>
        refine ⟨j + 1, by go_num, by omega, ?_⟩
        rw [encJ_take _ _ _ HZ.out, ← List.append_assoc]
        exact L6
      case measure => simp [intOf]; omega
    · obtain rfl : j = x.args.length := by omega
      go_wp2
      go_end0
      refine ⟨rfl, HE.out _ ?_⟩
      refine ⟨v5, ?_, k5, n5⟩
      rw [List.take_length] at hW5
      simpa only [encL, List.append_assoc] using hW5
end
end Go.Proofs.Ythlemapneangeaa
/-
  Encode, and the document's Lay and Encode.
-/
namespace Go.Proofs.Ythlemapneangeaa
set_option maxRecDepth 100000
open Go.RowKit
set_option linter.unusedVariables false
section
variable {w : World}
/-- Bytes in new memory, and an error's number. -/
def TwoB (w : World) (B : List UInt8) (E : Int) (e : Ending) (w' : World) : Prop := ∃ v, e = .returned (.tuple #[v, .int .i64 E]) ∧ Owns 5 w' v B ∧ Kept [] w w' ∧ Fresh w v
def encE (x : Lt) : Int := if x.formed = true then 0 else 1
def encB (x : Lt) : List UInt8 := if x.formed = true then encL x else []
theorem fresh_nil (w : World) (c : Nat) : Fresh w (.slice none c 0) := fun g hg => by simp [Value.ownBlock] at hg
theorem newW (w : World) : Calls Try.prog 35 #[] w fun e w' => ∃ p, e = .returned (.pointer (some ⟨p, 0, none⟩)) ∧ IsW 113 5 w' p (.slice none 0 0) [] ∧ Kept [] w w' ∧ w.heap.size ≤ p :=
  (new_w w).mono fun e w' ⟨he, hw⟩ => ⟨_, he, by subst hw; exact new_isW w, by subst hw; exact (Kept.refl [] w).alloc _, Nat.le_refl _⟩
theorem foot_nil (p : Nat) : foot p (.slice none 0 0) = [p] := rfl
theorem new_nil {w : World} {v : Value} (h : New w (.slice none 0 0) v) : Fresh w v := fun g hg => by
  rcases h g hg with h1 | h1
  · simp [Value.ownBlock] at h1
  · exact h1
set_option maxRecDepth 100000 in
set_option maxHeartbeats 1000000 in
/-- The document's Lay. -/
theorem lay29 (v : Value) (l : List UInt8) (x : Lt) (a : Option Addr) (c : Nat) (hW : Owns 5 w v l) (hx : ReadsJ w (.slice a x.args.length c) x.args) (ha : x.args ≠ [] → ∀ g, (Value.slice a x.args.length c).ownBlock = some g → v.ownBlock ≠ some g) (hok : x.ok)
    (hb : l.length + x.fr.length + 9 * x.args.length + 45 ≤ 140737488355328) :
    Calls Try.prog 42 #[v, Lv x a c] w fun e w' => ∃ v', e = .returned v' ∧ Grew 5 w v (l ++ encL x) v' w' := by
  have e1 := enc_length x.fr.length
  have e2 := enc_length x.ser
  have e3 := enc_length (fold x.kind)
  have e4 := enc_length x.args.length
  have hs : Hid ((⟨x.fr.toArray⟩ : ByteArray).size = x.fr.length) := Hid.mk (by simp [ByteArray.size])
  obtain ⟨-, hac, hcc⟩ := hx.bound
  have HX := Hid.mk hx
  clear hx
  have hser := hok.ser
  go_enter Try.func42, Try.ntmps42
  go_wp2_with fail
  obtain ⟨W0, e0, k0, hz0, hb0⟩ := box1 w (.cells #[Sv x.fr, .int .u64 (x.ser : Int), .int .i64 x.kind, .slice a x.args.length c] 46)
  rw [e0]
  clear e0
  have hW0 := hW.kept k0 (by simp)
  have HB : Hid (∀ W, Kept v.ownBlock.toList W0 W → W.heap[w.heap.size]? = some (.cells #[Sv x.fr, .int .u64 (x.ser : Int), .int .i64 x.kind, .slice a x.args.length c] 46 (0, 0))) := fun W k => k.keeps hb0 (fun hm => by
    rw [Option.mem_toList] at hm
    have := hW.lt hm; omega)
  have HA : Hid (∀ W, Kept v.ownBlock.toList W0 W → ReadsJ W (.slice a x.args.length c) x.args) := fun W k => HX.out.kept3 ((k0.mono (by simp)).trans k (fun x hx => .inl hx)) (fun hne g hg hm => by
    rw [Option.mem_toList] at hm
    exact ha hne g hg hm)
  have HE : Hid (∀ v' W, Grew 5 W0 v (l ++ encL x) v' W → Grew 5 w v (l ++ encL x) v' W) := fun v' W h => Grew.trans (k0.mono (by simp)) (New.refl w v) h
  clear hb0 hz0 k0 hW HX
  refine (reftext_any v l ⟨x.fr.toArray⟩ W0 hW0 (by rw [hs.out]; omega)).mono ?_
  rintro e w1 ⟨v1, rfl, hW1, k1, n1⟩
  rw [hs.out] at hW1
  change Owns 5 w1 v1 (l ++ enc x.fr.length ++ x.fr) at hW1
  obtain ⟨c0, c1, c2, c3⟩ := cells4 (HB.out _ k1)
  go_wp2_with fail
  refine (refnum_any v1 _ x.ser w1 hW1 hser (by simp only [List.length_append]; omega)).mono ?_
  rintro e w2 ⟨v2, rfl, L2⟩
  obtain ⟨hW2, k2, n2⟩ := Grew.trans k1 n1 L2
  clear L2 hW1 k1 n1 c0 c1 c2 c3
  obtain ⟨c0, c1, c2, c3⟩ := cells4 (HB.out _ k2)
  go_wp2_with fail
  refine (refint_any v2 _ x.kind w2 hW2 hok.kind.1 hok.kind.2 (by simp only [List.length_append]; omega)).mono ?_
  rintro e w3 ⟨v3, rfl, L3⟩
  obtain ⟨hW3, k3, n3⟩ := Grew.trans k2 n2 L3
  clear L3 hW2 k2 n2 c0 c1 c2 c3
  obtain ⟨c0, c1, c2, c3⟩ := cells4 (HB.out _ k3)
  go_wp2_with fail
  refine (refnum_any v3 _ x.args.length w3 hW3 (by omega) (by simp only [List.length_append]; omega)).mono ?_
  rintro e w4 ⟨v4, rfl, L4⟩
  have L4 := Grew.trans k3 n3 L4
  obtain ⟨hW4, k4, n4⟩ := id L4
  clear hW3 k3 n3 c0 c1 c2 c3
  obtain ⟨c0, c1, c2, c3⟩ := cells4 (HB.out _ k4)
  go_wp2_with fail
  clear c0 c1 c2 c3 hW4 k4 n4
  go_loopw [0, 27] (fun q i wr => ∃ j : Nat, i = .int .i64 (j : Int) ∧ j ≤ x.args.length ∧ Grew 5 W0 v (l ++ enc x.fr.length ++ x.fr ++ enc x.ser ++ enc (fold x.kind) ++ enc x.args.length ++ encJ (x.args.take j)) q wr) (fun _ i _ => x.args.length - (intOf i).toNat)
  case atStart => exact ⟨0, rfl, by omega, by simpa [encJ] using L4⟩
  case round =>
    obtain ⟨j, rfl, hj, hW5, k5, n5⟩ := hrel
    by_cases hlt : j < x.args.length
    · obtain ⟨z, hz⟩ : ∃ z, x.args[j]? = some z := ⟨_, List.getElem?_eq_getElem hlt⟩
      obtain ⟨b, o, rfl, hcell⟩ := (HA.out _ k5).at hz
      obtain ⟨c0, c1, c2, c3⟩ := cells4 (HB.out _ k5)
      have hzk := hok.args z (List.mem_of_getElem? hz)
      have HZ := Hid.mk hz
      have hjI : (j : Int) < (x.args.length : Int) := by omega
      have hlj := encJ_length (x.args.take j)
      rw [List.length_take] at hlj
      clear hz
      go_wp2_with fail
      refine (refint_any _ _ z _ hW5 hzk.1 hzk.2 (by simp only [List.length_append]; omega)).mono ?_
      rintro e w6 ⟨v6, rfl, L6⟩
      have L6 := Grew.trans k5 n5 L6
      go_wp2_with fail
      go_roundw
      case rel =>
        refine ⟨j + 1, by go_num, by omega, ?_⟩
        rw [encJ_take _ _ _ HZ.out, ← List.append_assoc]
        exact L6
      case measure => simp [intOf]; omega
    · obtain rfl : j = x.args.length := by omega
      go_wp2
      go_ret
      rw [List.take_length] at hW5
      have e9 : l ++ enc x.fr.length ++ x.fr ++ enc x.ser ++ enc (fold x.kind) ++ enc x.args.length ++ encJ x.args = l ++ encL x := by simp only [encL, List.append_assoc]
      rw [e9] at hW5
      exact ⟨_, rfl, HE.out _ _ ⟨hW5, k5, n5⟩⟩
end
end Go.Proofs.Ythlemapneangeaa
/-
  few, and awake.
-/
namespace Go.Proofs.Ythlemapneangeaa
set_option maxRecDepth 100000
open Go.RowKit
set_option linter.unusedVariables false
section
variable {w : World}
/-- Letters of a size that is looked at. -/
def FewQ (l : List Lq) : Prop := l.length ≤ 301 ∧ ∀ q ∈ l, q.x.fr.length ≤ 1000 ∧ q.x.args.length ≤ 1000
/-- What few answers. -/
def FewAt (l : List Lq) (w : World) (e : Ending) (w' : World) : Prop := ∃ b : Bool, e = .returned (.bool b) ∧ (b = true → FewQ l) ∧ Kept [] w w'
theorem few_yes {l : List Lq} {w w' : World} (h : FewQ l) (k : Kept [] w w') : FewAt l w (.returned (.bool true)) w' := ⟨true, rfl, fun _ => h, k⟩
theorem few_no {l : List Lq} {w w' : World} (k : Kept [] w w') : FewAt l w (.returned (.bool false)) w' := ⟨false, rfl, (fun h => Bool.noConfusion h), k⟩
/-- A new block of rows reads as them. -/
theorem reads_rows {k : Nat} (w : World) (rs : List (List Value)) (hw : Wide k rs) (hl : rs.length ≤ maxLen) (t : TypeId) (fr : Nat × Nat) : ReadsR k (w.alloc (.cells rs.flatten.toArray t fr)) (.slice (some ⟨w.heap.size, 0, none⟩) rs.length rs.length) rs := by
  have hh : (w.alloc (.cells rs.flatten.toArray t fr)).heap[w.heap.size]? = some (.cells rs.flatten.toArray t fr) := heap_alloc_new w _
  refine ⟨_, rs.length, rfl, Nat.le_refl _, hl, by simp, fun _ => ⟨w.heap.size, 0, rfl, fun j u hu i x hx => ?_⟩⟩
  have := hw.at j u hu i x hx
  unfold World.cell?
  rw [hh]
  simpa using this
theorem rowQ_new (w : World) (l : List Lq) (hl : l.length ≤ 1000) (t : TypeId) (fr : Nat × Nat) : RowQ (w.alloc (.cells (CQ l).flatten.toArray t fr)) (.slice (some ⟨w.heap.size, 0, none⟩) l.length l.length) l := by
  have := reads_rows w (CQ l) (CQ_wide l) (by rw [CQ_length]; unfold maxLen; omega) t fr
  rwa [CQ_length] at this
end
end Go.Proofs.Ythlemapneangeaa
/-
  Letters that came in, opened.
-/
namespace Go.Proofs.Ythlemapneangeaa
set_option maxRecDepth 100000
open Go.RowKit Go.Deep Go.ChangeShapes
set_option linter.unusedVariables false
theorem addr_add_add (a : Addr) (i j : Nat) : (a.add i).add j = a.add (i + j) := by
  obtain ⟨b, o, s⟩ := a
  unfold Addr.add
  by_cases hi : i = 0
  · by_cases hj : j = 0
    · simp [hi, hj]
    · simp [hi, hj]
  · by_cases hj : j = 0
    · simp [hi, hj]
    · simp [hi, hj, Nat.add_assoc]
theorem readsJ_of_row (W : World) (x : Addr) (zs : List Int) {len cap : Nat} (hl : len ≤ cap) (hm : cap ≤ maxLen) (hz : zs.length = cap) (hcell : ∀ i, i < zs.length → W.cell? (x.add i) = some (.int .i64 (zs.getD i 0))) (hwz : ∀ n ∈ zs, (Lit.int .i64 n).wf = true) :
    ∃ l, ReadsJ W (.slice (some x) len cap) l ∧ (∀ z ∈ l, I64 z) ∧ l.length = len := by
  have hlen : (zs.take len).length = len := by rw [List.length_take]; omega
  refine ⟨zs.take len, ⟨some x, cap, by rw [CJ_length, hlen], by rw [CJ_length]; omega, hm, by simp, fun hne => ?_⟩, fun z hz => bounds_i64 (hwz z (List.mem_of_mem_take hz)), hlen⟩
  have hpos : 0 < len := by
    rcases Nat.eq_zero_or_pos len with h | h
    · subst h; simp [CJ] at hne
    · exact h
  obtain ⟨b, o, spot⟩ := x
  have hc := hcell 0 (by omega)
  have hspot : spot = none := by simpa [Addr.add] using World.cell?_spot hc
  subst hspot
  refine ⟨b, o, rfl, fun j r hr i y hy => ?_⟩
  simp only [CJ, List.getElem?_map, Option.map_eq_some_iff] at hr
  obtain ⟨z, hz1, rfl⟩ := hr
  have hi : i = 0 := by
    have := (List.getElem?_eq_some_iff.1 hy).1
    simp at this
    exact this
  subst hi
  simp at hy
  subst hy
  have hj : j < len := by
    have := (List.getElem?_eq_some_iff.1 hz1).1
    rw [List.length_take] at this; omega
  rw [List.getElem?_take_of_lt hj] at hz1
  have h := hcell j (by omega)
  rw [add_at] at h
  rw [Nat.mul_one, Nat.add_zero, h]
  have hzz : zs.getD j 0 = z := by simp [List.getD, hz1]
  rw [hzz]
set_option maxRecDepth 100000 in
/-- A letter that came in. -/
theorem open_let {H : Type} {enc : TypeId × Value → H} {W : World} {fuel : Nat} {cs : List Value} {x : DataW H × List MemPlace} (h : DataW.trod enc Try.prog W 0 (fun _ => true) true fuel 46 cs = some x) (hl : cs.length = 4) :
    ∃ q : Lq, cs = cellsQ q ∧ ReadsJ W q.sl q.x.args ∧ q.x.ok := by
  obtain ⟨xs, k, hk, hxy, _, hxl, hf⟩ := DataW.trod_struct Try.underlying46 h
  match xs, hxl, cs, hl with
  | [y0, y1, y2, y3], _, [v0, v1, v2, v3], _ =>
    have g0 := hf 0 _ rfl
    have g1 := hf 1 _ rfl
    have g2 := hf 2 _ rfl
    have g3 := hf 3 _ rfl
    simp [show Try.prog.cellsOf 9 = 1 by kernel_rfl, show Try.prog.cellsOf 41 = 1 by kernel_rfl, show Try.prog.cellsOf 2 = 1 by kernel_rfl, show Try.prog.cellsOf 44 = 1 by kernel_rfl] at g0 g1 g2 g3
    obtain ⟨s, e0, f0, w0⟩ := DataW.trod_string Try.underlying9 g0
    obtain ⟨n, e1, f1, w1⟩ := DataW.trod_int Try.underlying41 g1
    obtain ⟨kd, e2, f2, w2⟩ := DataW.trod_int Try.underlying2 g2
    simp at e0 e1 e2
    subst e0 e1 e2
    have b1 := bounds_u64 w1
    have b2 := bounds_i64 w2
    obtain ⟨m, rfl⟩ := Int.eq_ofNat_of_zero_le b1.1
    have hs : Sv s.data.toList = .string s := by
      obtain ⟨d⟩ := s
      simp
    have fin : ∀ B, ReadsJ W v3 B → (∀ z ∈ B, I64 z) → ∃ q : Lq, [Value.string s, .int .u64 (m : Int), .int .i64 kd, v3] = cellsQ q ∧ ReadsJ W q.sl q.x.args ∧ q.x.ok := fun B hB hBl => by
      obtain ⟨a', c', rfl, _⟩ := hB.form
      exact ⟨⟨⟨s.data.toList, m, kd, B⟩, a', c'⟩, by rw [← hs]; rfl, hB, ⟨by show m < _; omega, b2, hBl⟩⟩
    rcases open_ints Try.underlying44 Try.underlying2 (by kernel_rfl) g3 with ⟨hcs3, hx3⟩ | ⟨y, l, c, zs, hcs3, _, hl3, hm3, hz, hx3, hcell3, hwz⟩
    · simp at hcs3
      subst hcs3
      exact fin [] (ReadsJ.nil W) (by simp)
    · simp at hcs3
      subst hcs3
      obtain ⟨B, hB, hBl, _⟩ := readsJ_of_row W y zs hl3 hm3 (by simpa using hz) hcell3 hwz
      exact fin B hB hBl
/-- Letters that came in. -/
def LetsIn (W : World) (v : Value) (l : List Lq) : Prop := RowQ W v l ∧ ValsQ W l ∧ ∀ q ∈ l, q.x.ok
end Go.Proofs.Ythlemapneangeaa
