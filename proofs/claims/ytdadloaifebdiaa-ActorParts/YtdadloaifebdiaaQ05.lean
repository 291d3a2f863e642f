import Derived.Deep.RegionHeld3
import Derived.Laws.Rows
import Derived.Shelf.Pu.Clone
import Derived.Ground.MpProg
import Derived.Test.YtdadloaifebdiaaQ04
/-
  Steps of a region by run equations; blocks of four cells. Over any program.
-/
namespace Go.Proofs.Ytdadloaifebdiaa
set_option maxRecDepth 100000
open Go.RowKit
set_option linter.unusedVariables false
theorem Kept.cell_eq {w w' : World} (k : Kept [] w w') {p : Addr} {u : Value} (h : w.cell? p = some u) : w'.cell? p = some u := by
  rw [k.cell (World.block_lt_of_cell? _ _ h) (by simp)]
  exact h
section
variable {P : Program} {w : World}
theorem wpList_append_run {ops : Array Oper} {rest : List Oper} {o : Oper} {a : Act} {Q : Exit → Act → World → Prop} (t u : TypeId) (sl x : Operand)
    (ho : o.op = .call { callee := .builtin .append, args := #[sl, x], argTypes := #[t, u] }) (hgd : Region.wanted o (yielded ops a.tmps) = true) (v y : Value) (hs : a.eval sl = v) (hx : a.eval x = y) (r : Value) (w' : World) (hrun : (Builtin.append_ #[t, u] o.type #[v, y]).run P w = .ok r w')
    (h : wpList P ops Q rest (a.put o.dst r) w') : wpList P ops Q (o :: rest) a w := by
  refine wpList_step fun K hK => ?_
  rw [if_pos hgd]
  unfold Oper.wp execOp
  simp only [ho, resolve, invoke, builtin, Sem.run_bind, Sem.run_pure, Result.andThen_ok, List.map_toArray, List.map_cons, List.map_nil, hs, hx, hrun]
  exact hK _ _ h
theorem step_append_run {ops : Array Oper} {o : Oper} {a : Act} {Q : Exit → Act → World → Prop} (t : TypeId) (sl x : Operand) (ho : o.op = .call { callee := .builtin .append, args := #[sl, x], argTypes := #[t, t] }) (hg : o.guard = none) (v y : Value) (hs : a.eval sl = v) (hx : a.eval x = y) {K : Act → World → Prop} {E : Prop} {r : Value} {w' : World} (hrun : (Builtin.append_ #[t, t] o.type #[v, y]).run P w = .ok r w') (hK : K (a.put o.dst r) w') :
    if Region.wanted o (yielded ops a.tmps) = true then Oper.wp P o a w K Q else E := by
  have hw : Region.wanted o (yielded ops a.tmps) = true := by simp [Region.wanted, hg]
  rw [if_pos hw]
  unfold Oper.wp execOp
  simp only [ho, resolve, invoke, builtin, Sem.run_bind, Sem.run_pure, Result.andThen_ok, List.map_toArray, List.map_cons, List.map_nil, hs, hx, hrun]
  exact hK
variable {b : Nat} {v0 v1 v2 v3 x : Value} {t : TypeId}
theorem cells4 (h : w.heap[b]? = some (.cells #[v0, v1, v2, v3] t (0, 0))) : w.cell? ⟨b, 0, none⟩ = some v0 ∧ w.cell? ⟨b, 1, none⟩ = some v1 ∧ w.cell? ⟨b, 2, none⟩ = some v2 ∧ w.cell? ⟨b, 3, none⟩ = some v3 := by simp [World.cell?, h]
theorem free4 (h : w.heap[b]? = some (.cells #[v0, v1, v2, v3] t (0, 0))) : w.frozen? ⟨b, 0, none⟩ = false ∧ w.frozen? ⟨b, 1, none⟩ = false ∧ w.frozen? ⟨b, 2, none⟩ = false ∧ w.frozen? ⟨b, 3, none⟩ = false := by simp [World.frozen?, h]
theorem set_at {cs : Array Value} {fz : Nat × Nat} {k : Nat} (h : w.heap[b]? = some (.cells cs t fz)) : (w.setCell ⟨b, k, none⟩ x).heap[b]? = some (.cells (cs.setIfInBounds k x) t fz) := by
  have hlt := lt_of_block h
  have h' : w.heap[b] = .cells cs t fz := by simpa [Array.getElem?_eq_getElem hlt] using h
  show (w.heap.modify b _)[b]? = _
  rw [Array.getElem?_eq_getElem (by simpa using hlt), Array.getElem_modify_self, h']
  rfl
theorem set4_0 (h : w.heap[b]? = some (.cells #[v0, v1, v2, v3] t (0, 0))) : (w.setCell ⟨b, 0, none⟩ x).heap[b]? = some (.cells #[x, v1, v2, v3] t (0, 0)) := set_at h
theorem set4_1 (h : w.heap[b]? = some (.cells #[v0, v1, v2, v3] t (0, 0))) : (w.setCell ⟨b, 1, none⟩ x).heap[b]? = some (.cells #[v0, x, v2, v3] t (0, 0)) := set_at h
theorem set4_2 (h : w.heap[b]? = some (.cells #[v0, v1, v2, v3] t (0, 0))) : (w.setCell ⟨b, 2, none⟩ x).heap[b]? = some (.cells #[v0, v1, x, v3] t (0, 0)) := set_at h
theorem set4_3 (h : w.heap[b]? = some (.cells #[v0, v1, v2, v3] t (0, 0))) : (w.setCell ⟨b, 3, none⟩ x).heap[b]? = some (.cells #[v0, v1, v2, x] t (0, 0)) := set_at h
theorem setCell_other {k : Nat} (h : w.heap[b]? = w.heap[b]?) {c : Nat} (hc : c ≠ b) : (w.setCell ⟨b, k, none⟩ x).heap[c]? = w.heap[c]? := Below.heap_setCell w ⟨b, k, none⟩ x c (by exact hc)
theorem box1 (w : World) (o : Obj) : ∃ W, w.alloc o = W ∧ Kept [] w W ∧ W.heap.size = w.heap.size + 1 ∧ W.heap[w.heap.size]? = some o := ⟨_, rfl, (Kept.refl [] w).alloc _, by simp, heap_alloc_new w _⟩
theorem box2 (w : World) (o o' : Obj) : ∃ W, (w.alloc o).alloc o' = W ∧ Kept [] w W ∧ W.heap.size = w.heap.size + 2 ∧ W.heap[w.heap.size]? = some o ∧ W.heap[w.heap.size + 1]? = some o' := by
  refine ⟨_, rfl, ((Kept.refl [] w).alloc _).alloc _, by simp, ?_, ?_⟩
  · rw [Below.heap_alloc _ _ _ (by simp)]; exact heap_alloc_new w _
  · have := heap_alloc_new (w.alloc o) o'
    simpa using this
/-- A struct of four cells that is stored whole. -/
theorem put4 (h : w.heap[b]? = some (.cells #[v0, v1, v2, v3] t (0, 0))) (x0 x1 x2 x3 : Value) : ∃ W, (((w.setCell ⟨b, 0, none⟩ x0).setCell ⟨b, 1, none⟩ x1).setCell ⟨b, 2, none⟩ x2).setCell ⟨b, 3, none⟩ x3 = W ∧ Kept [b] w W ∧ W.heap[b]? = some (.cells #[x0, x1, x2, x3] t (0, 0)) ∧ W.heap.size = w.heap.size :=
  ⟨_, rfl, ((((Kept.refl [b] w).setCell (p := ⟨b, 0, none⟩) (.inl (by simp)) x0).setCell (p := ⟨b, 1, none⟩) (.inl (by simp)) x1).setCell (p := ⟨b, 2, none⟩) (.inl (by simp)) x2).setCell (p := ⟨b, 3, none⟩) (.inl (by simp)) x3, set4_3 (set4_2 (set4_1 (set4_0 h))), by simp⟩
theorem results_cell_row2 {fn : Func} {p u : Tmp} {ty : TypeId} (h : fn.results = #[.cell p ty, .tmp u]) (tmps : Array Value) (w : World) (g : Nat) (t : TypeId) (cs : Array Value) (fr : Nat × Nat) (d : TypeDesc)
    (hp : tmps.getD p undef = .pointer (some ⟨g, 0, none⟩)) (hg : w.heap[g]? = some (.cells cs t fr)) (hu : P.underlying ty = some d) (hd : (match d with | .struct _ | .array _ _ => true | _ => false) = true) (hi : (P.info? ty).map (·.size) = some cs.size) (r : Value) (hr : tmps.getD u undef = r) :
    (results fn tmps).run P w = .ok (.tuple #[.agg cs, r]) w := by
  have hp' : tmps[p]?.getD undef = .pointer (some ⟨g, 0, none⟩) := by simpa using hp
  have hr' : tmps[u]?.getD undef = r := by simpa using hr
  simp [results, h, hp', hr', asAddr, run_loadVar_row w g t ty cs fr d hg hu hd hi]
end
end Go.Proofs.Ytdadloaifebdiaa
/-
  strings.Clone, and Copy of a letter.
-/
namespace Go.Proofs.Ytdadloaifebdiaa
set_option maxRecDepth 100000
open Go.RowKit Go.Shelf
set_option linter.unusedVariables false
def cloneS_ren : Go.Shelf.Ren := ⟨fun | 25 => 74 | n => n, fun | 9 => 9 | 3 => 3 | 4 => 4 | 37 => 35 | 0 => 0 | 47 => 144 | 5 => 5 | n => n, fun | n => n⟩
theorem cloneS : Go.Proofs.LaysPu.n25 Try.prog cloneS_ren := {
  mixed := by kernel_rfl
  f25 := Try.func74.trans (congrArg some (by kernel_rfl))
  t0 := Try.underlying0
  a0 := Try.isAgg0
  z0 := Try.sizeOf0
  v0 := Try.zeroValue0
  i0 := by kernel_rfl
  t3 := Try.underlying3
  a3 := Try.isAgg3
  z3 := Try.sizeOf3
  v3 := Try.zeroValue3
  i3 := by kernel_rfl
  t4 := Try.underlying4
  a4 := Try.isAgg4
  z4 := Try.sizeOf4
  v4 := Try.zeroValue4
  i4 := by kernel_rfl
  t5 := Try.underlying5
  a5 := Try.isAgg5
  z5 := Try.sizeOf5
  v5 := Try.zeroValue5
  i5 := by kernel_rfl
  t9 := Try.underlying9
  a9 := Try.isAgg9
  z9 := Try.sizeOf9
  v9 := Try.zeroValue9
  i9 := by kernel_rfl
  t37 := Try.underlying35
  a37 := Try.isAgg35
  z37 := Try.sizeOf35
  v37 := Try.zeroValue35
  i37 := by kernel_rfl
  t47 := Try.underlying144
  a47 := Try.isAgg144
  z47 := Try.sizeOf144
  v47 := Try.zeroValue144
  i47 := by kernel_rfl }
section
variable {w : World}
set_option maxHeartbeats 1000000 in
theorem clone32 (s : List UInt8) (hs : s.length ≤ 281474976710656) : Calls Try.prog 54 #[Sv s] w fun e w' => e = .returned (Sv s) ∧ Kept [] w w' := by
  have h : Calls Try.prog 74 #[Sv s] w fun e w' => e = .returned (Sv s) ∧ Below w.heap.size w w' := AnyPu.stringslite_Clone cloneS ⟨s.toArray⟩ w (by simpa [ByteArray.size] using hs)
  go_enter Try.func54, Try.ntmps54
  go_wp2_with (go_at_call 74; refine h.mono ?_; rintro e w1 ⟨rfl, hb⟩)
  go_ret
  exact ⟨rfl, ⟨hb.os, hb.tape, hb.output, hb.size, fun k hk _ => hb.block k hk⟩⟩
set_option maxRecDepth 100000 in
set_option maxHeartbeats 1000000 in
/-- Copy: the same letter, its Args in new memory. -/
theorem copy17 (x : Lt) (a : Option Addr) (c : Nat) (hx : ReadsJ w (.slice a x.args.length c) x.args) (hs : x.fr.length ≤ 100000) (hl : x.args.length ≤ 100000) :
    Calls Try.prog 48 #[Lv x a c] w fun e w' => ∃ a' c', e = .returned (Lv x a' c') ∧ OwnsJ w' (.slice a' x.args.length c') x.args ∧ Kept [] w w' ∧ Fresh w (.slice a' x.args.length c') := by
  have HC : Hid (∀ W, Calls Try.prog 54 #[Sv x.fr] W fun e w' => e = .returned (Sv x.fr) ∧ Kept [] W w') := fun W => clone32 x.fr (by omega)
  have HX := Hid.mk hx
  clear hx
  go_enter Try.func48, Try.ntmps48
  go_wp2_with fail
  obtain ⟨W0, e0, k0, hz0, hb0, hb1⟩ := box2 w (.cells #[Sv x.fr, .int .u64 (x.ser : Int), .int .i64 x.kind, .slice a x.args.length c] 50) (.cells #[.string { data := #[] }, .int .u64 0, .int .i64 0, .slice none 0 0] 50)
  rw [e0]
  clear e0
  refine (HC.out _).mono ?_
  rintro e w1 ⟨rfl, k1⟩
  have hb2 := k1.keeps hb0 (by simp)
  have hb3 := k1.keeps hb1 (by simp)
  have k2 := k0.trans k1 (by simp)
  have hz2 := k1.size
  have hz3 : w.heap.size + 2 ≤ w1.heap.size := by omega
  have HZ := Hid.mk hz3
  clear hz3 hz2 hz0 hb0 hb1
  obtain ⟨c0, -, -, c3⟩ := cells4 hb2
  obtain ⟨f0, -, -, f3⟩ := free4 hb2
  have k3 : Kept [] w (w1.setCell ⟨w.heap.size, 0, none⟩ (Sv x.fr)) := k2.setCell (.inr (Nat.le_refl _)) _
  have hb4 := set4_0 (x := Sv x.fr) hb2
  obtain ⟨a2, c2, w2, hrun, ho, hg, hN⟩ := run_appendR rt23 (w1.setCell ⟨w.heap.size, 0, none⟩ (Sv x.fr)) 48 (.slice none 0 0) [] (OwnsR.nil 2 1 _) _ (CJ x.args) (CJ_wide _) (HX.out.kept k3 (by simp)) (by rw [CJ_length]; simp; omega)
  rw [List.nil_append, List.length_nil, Nat.zero_add, CJ_length] at *
  have hz4 : w.heap.size + 2 ≤ w2.heap.size := by
    have := hg.size
    have h := HZ.out
    simp at this
    omega
  have hb5 : w2.heap[w.heap.size]? = _ := (hg.block w.heap.size (by have := HZ.out; simp; omega) (by simp [Value.ownBlock])).trans hb4
  have hb6 : w2.heap[w.heap.size + 1]? = _ := (hg.block (w.heap.size + 1) (by have := HZ.out; simp; omega) (by simp [Value.ownBlock])).trans ((setCell_other (b := w.heap.size) (k := 0) rfl (by omega)).trans hb3)
  have k4 : Kept [] w w2 := k3.grown hg (by simp [Value.ownBlock])
  obtain ⟨c4, c5, c6, c7⟩ := cells4 hb5
  obtain ⟨f4, f5, f6, f7⟩ := free4 hb5
  obtain ⟨d4, d5, d6, d7⟩ := cells4 hb6
  obtain ⟨g4, g5, g6, g7⟩ := free4 hb6
  go_wp2_with (at_builtin; refine wpList_append_run 48 48 _ _ rfl (by rfl) _ _ rfl rfl _ _ hrun ?_)
  have h8 := set4_3 (x := .slice a2 x.args.length c2) (set4_2 (x := .int .i64 x.kind) (set4_1 (x := .int .u64 (x.ser : Int)) (set4_0 (x := Sv x.fr) ((setCell_other (w := w2) (b := w.heap.size) (k := 3) (x := .slice a2 x.args.length c2) rfl (by omega : w.heap.size + 1 ≠ w.heap.size)).trans hb6))))
  have k8 := ((((k4.setCell (p := ⟨w.heap.size, 3, none⟩) (.inr (Nat.le_refl _)) (.slice a2 x.args.length c2)).setCell (p := ⟨w.heap.size + 1, 0, none⟩) (.inr (Nat.le_succ _)) (Sv x.fr)).setCell (p := ⟨w.heap.size + 1, 1, none⟩) (.inr (Nat.le_succ _)) (.int .u64 (x.ser : Int))).setCell (p := ⟨w.heap.size + 1, 2, none⟩) (.inr (Nat.le_succ _)) (.int .i64 x.kind)).setCell (p := ⟨w.heap.size + 1, 3, none⟩) (.inr (Nat.le_succ _)) (.slice a2 x.args.length c2)
  have hfr : ∀ g, (Value.slice a2 x.args.length c2).ownBlock = some g → w.heap.size + 2 ≤ g := fun g hg' => by
    rcases hN g hg' with h | h
    · simp [Value.ownBlock] at h
    · have := HZ.out
      simp at h
      omega
  have kT : Kept [w.heap.size, w.heap.size + 1] w2 _ := ((((((Kept.refl [w.heap.size, w.heap.size + 1] w2).setCell (p := ⟨w.heap.size, 3, none⟩) (.inl (by simp)) (.slice a2 x.args.length c2)).setCell (p := ⟨w.heap.size + 1, 0, none⟩) (.inl (by simp)) (Sv x.fr)).setCell (p := ⟨w.heap.size + 1, 1, none⟩) (.inl (by simp)) (.int .u64 (x.ser : Int))).setCell (p := ⟨w.heap.size + 1, 2, none⟩) (.inl (by simp)) (.int .i64 x.kind)).setCell (p := ⟨w.heap.size + 1, 3, none⟩) (.inl (by simp)) (.slice a2 x.args.length c2))
  refine bodyPost_ret (results_cell_row (p := 2) (ty := 50) rfl _ _ (w.heap.size + 1) 50 _ (0, 0) _ rfl h8 Try.underlying50 rfl (by kernel_rfl)) rfl ?_
  refine ⟨a2, c2, rfl, OwnsR.kept ho kT (fun g hg' hm => ?_), k8, fun g hg' => by have := hfr g hg'; omega⟩
  have := hfr g hg'
  simp at hm
  omega
set_option maxRecDepth 100000 in
set_option maxHeartbeats 1000000 in
/-- The document's Copy. -/
theorem copy25 (x : Lt) (a : Option Addr) (c : Nat) (hx : ReadsJ w (.slice a x.args.length c) x.args) (hl : x.args.length ≤ 100000) :
    Calls Try.prog 50 #[Lv x a c] w fun e w' => ∃ a' c', e = .returned (Lv x a' c') ∧ OwnsJ w' (.slice a' x.args.length c') x.args ∧ Kept [] w w' ∧ Fresh w (.slice a' x.args.length c') := by
  have HX := Hid.mk hx
  clear hx
  go_enter Try.func50, Try.ntmps50
  obtain ⟨W0, e0, k0, hz0, hb0, hb1⟩ := box2 w (.cells #[Sv x.fr, .int .u64 (x.ser : Int), .int .i64 x.kind, .slice a x.args.length c] 50) (.cells #[.string { data := #[] }, .int .u64 0, .int .i64 0, .slice none 0 0] 50)
  have hO : OwnsR 2 1 (W0.alloc (.cells #[] 2)) (.slice (some ⟨w.heap.size + 2, 0, none⟩) 0 0) [] := by
    have := World.ownsRow_made (base := 0) (e := 2) (size := 1) W0 #[] 0 (Nat.zero_le _) (by simp) (by simp)
    rw [hz0] at this
    exact this
  have k1 := k0.alloc (.cells #[] 2)
  have hb2 : (W0.alloc (.cells #[] 2)).heap[w.heap.size]? = _ := (Below.heap_alloc _ _ _ (by omega)).trans hb0
  have hb3 : (W0.alloc (.cells #[] 2)).heap[w.heap.size + 1]? = _ := (Below.heap_alloc _ _ _ (by omega)).trans hb1
  have HZ : Hid (w.heap.size + 3 = (W0.alloc (.cells #[] 2)).heap.size) := Hid.mk (by simp [hz0])
  rw [← e0] at hO k1 hb2 hb3 HZ
  clear e0 hb0 hb1 hz0 k0
  generalize hW1 : ((w.alloc (.cells #[Sv x.fr, .int .u64 (x.ser : Int), .int .i64 x.kind, .slice a x.args.length c] 50)).alloc (.cells #[.string { data := #[] }, .int .u64 0, .int .i64 0, .slice none 0 0] 50)).alloc (.cells #[] 2) = W1 at hO k1 hb2 hb3 HZ
  obtain ⟨a2, c2, w2, hrun, ho, hg, hN⟩ := run_appendR rt23 W1 48 _ [] hO _ (CJ x.args) (CJ_wide _) (HX.out.kept k1 (by simp)) (by rw [CJ_length]; simp; omega)
  rw [List.nil_append, List.length_nil, Nat.zero_add, CJ_length] at *
  rw [← hW1] at hrun
  have hz4 : Hid (w.heap.size + 3 ≤ w2.heap.size) := by
    have := hg.size
    have h := HZ.out
    show _ ≤ _
    omega
  have hb5 : w2.heap[w.heap.size]? = _ := (hg.block w.heap.size (by have := HZ.out; omega) (by simp [Value.ownBlock])).trans hb2
  have hb6 : w2.heap[w.heap.size + 1]? = _ := (hg.block (w.heap.size + 1) (by have := HZ.out; omega) (by simp [Value.ownBlock])).trans hb3
  have k4 : Kept [] w w2 := k1.grown hg (by simp [Value.ownBlock])
  have hfr : Hid (∀ g, (Value.slice a2 x.args.length c2).ownBlock = some g → w.heap.size + 2 ≤ g) := fun g hg' => by
    rcases hN g hg' with h | h
    · simp [Value.ownBlock] at h; omega
    · have := HZ.out
      omega
  clear hW1 hO hb2 hb3 k1 hg hN HZ
  obtain ⟨c4, c5, c6, c7⟩ := cells4 hb5
  obtain ⟨f4, f5, f6, f7⟩ := free4 hb5
  obtain ⟨d4, d5, d6, d7⟩ := cells4 hb6
  obtain ⟨g4, g5, g6, g7⟩ := free4 hb6
  go_wp2_with (at_builtin; refine wpList_append_run 48 48 _ _ rfl (by rfl) _ _ rfl rfl _ _ hrun ?_)
  have h7 := (setCell_other (w := w2) (b := w.heap.size) (k := 3) (x := .slice a2 x.args.length c2) rfl (by omega : w.heap.size + 1 ≠ w.heap.size)).trans hb6
  have k7 := k4.setCell (p := ⟨w.heap.size, 3, none⟩) (.inr (Nat.le_refl _)) (.slice a2 x.args.length c2)
  have kT7 := (Kept.refl [w.heap.size, w.heap.size + 1] w2).setCell (p := ⟨w.heap.size, 3, none⟩) (.inl (by simp)) (.slice a2 x.args.length c2)
  obtain ⟨W8, e8, k8, h8, -⟩ := put4 h7 (Sv x.fr) (.int .u64 (x.ser : Int)) (.int .i64 x.kind) (.slice a2 x.args.length c2)
  have kT8 := kT7.trans k8 (by simp)
  rw [e8]
  refine bodyPost_ret (results_cell_row (p := 2) (ty := 50) rfl _ _ (w.heap.size + 1) 50 _ (0, 0) _ rfl h8 Try.underlying50 rfl (by kernel_rfl)) rfl ?_
  refine ⟨a2, c2, rfl, OwnsR.kept ho kT8 (fun g hg' hm => ?_), k7.trans k8 (by simp), fun g hg' => by have := hfr.out g hg'; omega⟩
  have := hfr.out g hg'
  simp at hm
  omega
end
end Go.Proofs.Ytdadloaifebdiaa
