import Derived.Deep.QuietTactic
import Derived.BigQuiet
import Derived.Deep.RegionHeld3
import Derived.Laws.Rows
import Derived.Shelf.Pu.Clone
import Derived.Ground.MpProg
import Derived.Deep.RegionLaw
import Derived.Deep.DrawnRows
import Derived.Test.YtdadloaifebdiaaGreatQ03
import Derived.Test.YtdadloaifebdiaaGreatQ04
/-
  Formed, and rows of integers that are held against each other.
-/
namespace Go.Proofs.YtdadloaifebdiaaGreat
set_option maxRecDepth 100000
open Go.RowKit
set_option linter.unusedVariables false
section
variable {w : World}
theorem Lt.formed_eq (x : Lt) (b1 b2 : Bool) (h1 : (decide ((x.fr.length : Int) ≤ 40)) = b1) (h2 : decide ((x.args.length : Int) ≤ 4) = b2) : x.formed = (b1 && b2) := by
  subst h1 h2
  unfold Lt.formed
  congr 1 <;> (rw [decide_eq_decide]; omega)
set_option maxHeartbeats 1000000 in
theorem formed13 (x : Lt) (a : Option Addr) (c : Nat) : Calls Tryz.prog 85 #[Lv x a c] w fun e w' => e = .returned (.bool x.formed) ∧ Kept [] w w' := by
  have HF := Hid.mk x.formed_eq
  generalize x.formed = fb at HF
  go_enter Tryz.func85, Tryz.ntmps85
  go_wp2_with fail
  · go_ret
    refine ⟨?_, (Kept.refl [] w).alloc _⟩
    rw [HF.out _ _ rfl rfl]
    have h : ((x.fr.length : Int) ≤ 40) := by omega
    simp only [h, decide_true, Bool.true_and]
    rfl
  · go_ret
    refine ⟨?_, (Kept.refl [] w).alloc _⟩
    rw [HF.out _ _ rfl rfl]
    have h : ¬ ((x.fr.length : Int) ≤ 40) := by omega
    simp only [h, decide_false, Bool.false_and]
    rfl
set_option maxHeartbeats 1000000 in
theorem formed14 (x : Lt) (a : Option Addr) (c : Nat) : Calls Tryz.prog 84 #[Lv x a c] w fun e w' => e = .returned (.bool x.formed) ∧ Kept [] w w' := by
  have HF := Hid.mk x.formed_eq
  generalize x.formed = fb at HF
  go_enter Tryz.func84, Tryz.ntmps84
  go_wp2_with fail
  · go_ret
    refine ⟨?_, (Kept.refl [] w).alloc _⟩
    rw [HF.out _ _ rfl rfl]
    have h : ((x.fr.length : Int) ≤ 40) := by omega
    simp only [h, decide_true, Bool.true_and]
    rfl
  · go_ret
    refine ⟨?_, (Kept.refl [] w).alloc _⟩
    rw [HF.out _ _ rfl rfl]
    have h : ¬ ((x.fr.length : Int) ≤ 40) := by omega
    simp only [h, decide_false, Bool.false_and]
    rfl
/-- Two rows of integers part at a place, or are alike. -/
theorem ints_part (l m : List Int) (h : l.length = m.length) : l = m ∨ ∃ k, k < l.length ∧ l.take k = m.take k ∧ l[k]? ≠ m[k]? := by
  induction l generalizing m with
  | nil => cases m with
    | nil => exact .inl rfl
    | cons y m => simp at h
  | cons x l ih => cases m with
    | nil => simp at h
    | cons y m =>
      by_cases hxy : x = y
      · subst hxy
        rcases ih m (by simpa using h) with rfl | ⟨k, h1, h2, h3⟩
        · exact .inl rfl
        · exact .inr ⟨k + 1, by simp; omega, by simp [h2], by simpa using h3⟩
      · exact .inr ⟨0, by simp, by simp, by simp [hxy]⟩
set_option maxRecDepth 100000 in
set_option maxHeartbeats 1000000 in
theorem sameInts31 {a a' : Option Addr} {c c' n n' : Nat} {l m : List Int} (hr : ReadsJ w (.slice a n c) l) (hr' : ReadsJ w (.slice a' n' c') m) (hn : Hid (n = l.length)) (hn' : Hid (n' = m.length)) (hl : n ≤ 9223372036854775806) : Calls Tryz.prog 118 #[.slice a n c, .slice a' n' c'] w fun e w' => e = .returned (.bool (decide (l = m))) ∧ Kept [] w w' := by
  by_cases hlen : n = n'
  · subst hlen
    obtain ⟨-, hc1, hc2⟩ := hr.bound
    obtain ⟨-, hc3, hc4⟩ := hr'.bound
    have HR := Hid.mk hr
    have HR' := Hid.mk hr'
    clear hr hr'
    have HL : Hid (l.length = m.length) := hn.out.symm.trans hn'.out
    generalize hD : decide (l = m) = D
    have HD := Hid.mk hD
    clear hD
    go_enter Tryz.func118, Tryz.ntmps118
    go_wp2_with fail
    go_loopw [13] (fun i wr => ∃ j : Nat, i = .int .i64 (j : Int) ∧ j ≤ n ∧ Hid (l.take j = m.take j) ∧ Kept [] w wr) (fun i _ => n - (intOf i).toNat)
    case atStart => exact ⟨0, rfl, by omega, Hid.mk rfl, Kept.refl [] w⟩
    case round =>
      obtain ⟨j, rfl, hj, ht, kk⟩ := hrel
      by_cases hlt : j < n
      · obtain ⟨x, hx⟩ : ∃ x, l[j]? = some x := ⟨_, List.getElem?_eq_getElem (by have := hn.out; omega)⟩
        obtain ⟨y, hy⟩ : ∃ y, m[j]? = some y := ⟨_, List.getElem?_eq_getElem (by have := hn'.out; omega)⟩
        obtain ⟨b, o, rfl, hcell⟩ := (HR.out.kept kk (by simp)).at hx
        obtain ⟨b', o', rfl, hcell'⟩ := (HR'.out.kept kk (by simp)).at hy
        have HK := Hid.mk kk
        have HX := Hid.mk hx
        have HY := Hid.mk hy
        clear hx hy kk
        have hjI : (j : Int) < (n : Int) := by omega
        by_cases hxy : x = y
        · subst hxy
          have hne : (x != x) = false := by simp
          go_wp2_with fail
          go_quiet (fail)
          go_wp2
          go_roundw
          case rel => exact ⟨j + 1, by go_num, by omega, by show _ = _; rw [List.take_add_one, List.take_add_one, ht.out, HX.out, HY.out], HK.out.drewN _⟩
          case measure => simp [intOf]; omega
        · have hne : (x != y) = true := by simp [hxy]
          go_wp2_with fail
          go_quiet (fail)
          go_wp2
          go_ret
          refine ⟨?_, HK.out.drewN _⟩
          have : D = false := by
            rw [← HD.out]
            simp only [decide_eq_false_iff_not]
            intro e
            have := HX.out.symm.trans ((congrArg (fun q : List Int => q[j]?) e).trans HY.out)
            simp at this
            exact hxy this
          rw [this]
          rfl
      · obtain rfl : j = n := by omega
        go_wp2
        go_ret
        refine ⟨?_, kk⟩
        have : D = true := by
          rw [← HD.out]
          simp only [decide_eq_true_eq]
          have := ht.out
          rwa [List.take_of_length_le (by rw [← hn.out]; exact Nat.le_refl _), List.take_of_length_le (by rw [← hn'.out]; exact Nat.le_refl _)] at this
        rw [this]
        rfl
  · generalize hD : decide (l = m) = D
    have : D = false := by rw [← hD]; simp; intro e; subst e; exact hlen (hn.out.trans hn'.out.symm)
    subst this
    have h1 : ((n : Int) != (n' : Int)) = true := by simp; omega
    clear hD hr hr'
    go_enter Tryz.func118, Tryz.ntmps118
    go_wp2_with fail
    go_ret
    exact ⟨rfl, Kept.refl [] w⟩
end
end Go.Proofs.YtdadloaifebdiaaGreat
/-
  slices.Equal of integers, and Same of two letters.
-/
namespace Go.Proofs.YtdadloaifebdiaaGreat
set_option maxRecDepth 100000
open Go.RowKit
set_option linter.unusedVariables false
section
variable {w : World}
/-- All of two letters is alike. -/
def sameL (x y : Lt) : Bool := decide (x.fr = y.fr ∧ x.ser = y.ser ∧ x.kind = y.kind ∧ x.args = y.args)
theorem sameL_iff (x y : Lt) : sameL x y = true ↔ x = y := by
  cases x; cases y; simp [sameL]
theorem sameL_refl (x : Lt) : sameL x x = true := (sameL_iff x x).2 rfl
set_option maxRecDepth 100000 in
set_option maxHeartbeats 1000000 in
theorem same16 (x y : Lt) (a b : Option Addr) (c d : Nat) (hx : ReadsJ w (.slice a x.args.length c) x.args) (hy : ReadsJ w (.slice b y.args.length d) y.args) (hl : x.args.length ≤ 9223372036854775806) :
    Calls Tryz.prog 92 #[Lv x a c, Lv y b d] w fun e w' => e = .returned (.bool (sameL x y)) ∧ Kept [] w w' := by
  generalize hD : sameL x y = D
  have HD := Hid.mk hD
  clear hD
  have k2 : Kept [] w ((w.alloc (Obj.cells #[Sv x.fr, Value.int IntKind.u64 ↑x.ser, Value.int IntKind.i64 x.kind, Value.slice a x.args.length c] 90)).alloc (Obj.cells #[Sv y.fr, Value.int IntKind.u64 ↑y.ser, Value.int IntKind.i64 y.kind, Value.slice b y.args.length d] 90)) := ((Kept.refl [] w).alloc _).alloc _
  by_cases h1 : x.fr = y.fr
  · have g1 : (x.fr == y.fr) = true := by simp [h1]
    by_cases h2 : x.ser = y.ser
    · have g2 : ((x.ser : Int) == (y.ser : Int)) = true := by simp [h2]
      by_cases h3 : x.kind = y.kind
      · have g3 : (x.kind == y.kind) = true := by simp [h3]
        have HE := Hid.mk (fun W (k : Kept [] w W) => sameInts31 (hx.kept k (by simp)) (hy.kept k (by simp)) rfl rfl hl)
        have H1 := Hid.mk h1
        have H2 := Hid.mk h2
        have H3 := Hid.mk h3
        clear k2 h1 h2 h3 hx hy
        go_enter Tryz.func92, Tryz.ntmps92
        go_wp2_with (go_at_call 118; refine (HE.out _ (((Kept.refl [] w).alloc _).alloc _)).mono ?_; rintro e w3 ⟨rfl, hk3⟩)
        go_ret
        refine ⟨?_, (((Kept.refl [] w).alloc _).alloc _).trans hk3 (by simp)⟩
        rw [← HD.out]
        unfold sameL
        simp only [H1.out, H2.out, H3.out, true_and]
        rfl
      · have g3 : (x.kind == y.kind) = false := by simp [h3]
        have HK := Hid.mk k2
        have HH := Hid.mk h3
        clear k2 hx hy h3 h1 h2
        go_enter Tryz.func92, Tryz.ntmps92
        go_wp2_with fail
        go_ret
        refine ⟨?_, HK.out⟩
        rw [← HD.out]
        unfold sameL
        simp only [HH.out, false_and, and_false, decide_false]
        rfl
    · have g2 : ((x.ser : Int) == (y.ser : Int)) = false := by simp; omega
      have HK := Hid.mk k2
      have HH := Hid.mk h2
      clear k2 hx hy h2 h1
      go_enter Tryz.func92, Tryz.ntmps92
      go_wp2_with fail
      go_ret
      refine ⟨?_, HK.out⟩
      rw [← HD.out]
      unfold sameL
      simp only [HH.out, false_and, and_false, decide_false]
      rfl
  · have g1 : (x.fr == y.fr) = false := by simp [h1]
    have HK := Hid.mk k2
    have HH := Hid.mk h1
    clear k2 hx hy h1
    go_enter Tryz.func92, Tryz.ntmps92
    go_wp2_with fail
    go_ret
    refine ⟨?_, HK.out⟩
    rw [← HD.out]
    unfold sameL
    simp only [HH.out, false_and, decide_false]
    rfl
end
end Go.Proofs.YtdadloaifebdiaaGreat
/-
  Steps of a region by run equations; blocks of four cells. Over any program.
-/
namespace Go.Proofs.YtdadloaifebdiaaGreat
set_option maxRecDepth 100000
open Go.RowKit
set_option linter.unusedVariables false
theorem Kept.cell_eq {w w' : World} (k : Kept [] w w') {p : Addr} {u : Value} (h : w.cell? p = some u) : w'.cell? p = some u := by
  rw [k.cell (World.block_lt_of_cell? _ _ h) (by simp)]
  exact h
section
variable {P : Program} {w : World}
theorem wpList_append_run {ops : Array Oper} {rest : List Oper} {o : Oper} {a : Act} {Q : Exit → Act → World → Prop} (t u : TypeId) (sl x : Operand)
    (ho : o.op = .call { callee := .builtin .append, args := #[sl, x], argTypes := #[t, u] }) (hgd : Region.wanted o (yielded ops a.tmps) = true) (v y : Value) (hs : a.eval sl = v) (hx : a.eval x = y) (r : Value) (w' : World) (hrun : (Builtin.append_ #[t, u] o.type #[v, y]).run P w = .ok r w')
    (h : wpList P ops Q rest (a.put o.dst r) w') : wpList P ops Q (o :: rest) a w := by
  refine wpList_step fun K hK => ?_
  rw [if_pos hgd]
  unfold Oper.wp execOp
  simp only [ho, resolve, invoke, builtin, Sem.run_bind, Sem.run_pure, Result.andThen_ok, List.map_toArray, List.map_cons, List.map_nil, hs, hx, hrun]
  exact hK _ _ h
theorem step_append_run {ops : Array Oper} {o : Oper} {a : Act} {Q : Exit → Act → World → Prop} (t : TypeId) (sl x : Operand) (ho : o.op = .call { callee := .builtin .append, args := #[sl, x], argTypes := #[t, t] }) (hg : o.guard = none) (v y : Value) (hs : a.eval sl = v) (hx : a.eval x = y) {K : Act → World → Prop} {E : Prop} {r : Value} {w' : World} (hrun : (Builtin.append_ #[t, t] o.type #[v, y]).run P w = .ok r w') (hK : K (a.put o.dst r) w') :
    if Region.wanted o (yielded ops a.tmps) = true then Oper.wp P o a w K Q else E := by
  have hw : Region.wanted o (yielded ops a.tmps) = true := by simp [Region.wanted, hg]
  rw [if_pos hw]
  unfold Oper.wp execOp
  simp only [ho, resolve, invoke, builtin, Sem.run_bind, Sem.run_pure, Result.andThen_ok, List.map_toArray, List.map_cons, List.map_nil, hs, hx, hrun]
  exact hK
variable {b : Nat} {v0 v1 v2 v3 x : Value} {t : TypeId}
theorem cells4 (h : w.heap[b]? = some (.cells #[v0, v1, v2, v3] t (0, 0))) : w.cell? ⟨b, 0, none⟩ = some v0 ∧ w.cell? ⟨b, 1, none⟩ = some v1 ∧ w.cell? ⟨b, 2, none⟩ = some v2 ∧ w.cell? ⟨b, 3, none⟩ = some v3 := by simp [World.cell?, h]
theorem free4 (h : w.heap[b]? = some (.cells #[v0, v1, v2, v3] t (0, 0))) : w.frozen? ⟨b, 0, none⟩ = false ∧ w.frozen? ⟨b, 1, none⟩ = false ∧ w.frozen? ⟨b, 2, none⟩ = false ∧ w.frozen? ⟨b, 3, none⟩ = false := by simp [World.frozen?, h]
theorem set_at {cs : Array Value} {fz : Nat × Nat} {k : Nat} (h : w.heap[b]? = some (.cells cs t fz)) : (w.setCell ⟨b, k, none⟩ x).heap[b]? = some (.cells (cs.setIfInBounds k x) t fz) := by
  have hlt := lt_of_block h
  have h' : w.heap[b] = .cells cs t fz := by simpa [Array.getElem?_eq_getElem hlt] using h
  show (w.heap.modify b _)[b]? = _
  rw [Array.getElem?_eq_getElem (by simpa using hlt), Array.getElem_modify_self, h']
  rfl
theorem set4_0 (h : w.heap[b]? = some (.cells #[v0, v1, v2, v3] t (0, 0))) : (w.setCell ⟨b, 0, none⟩ x).heap[b]? = some (.cells #[x, v1, v2, v3] t (0, 0)) := set_at h
theorem set4_1 (h : w.heap[b]? = some (.cells #[v0, v1, v2, v3] t (0, 0))) : (w.setCell ⟨b, 1, none⟩ x).heap[b]? = some (.cells #[v0, x, v2, v3] t (0, 0)) := set_at h
theorem set4_2 (h : w.heap[b]? = some (.cells #[v0, v1, v2, v3] t (0, 0))) : (w.setCell ⟨b, 2, none⟩ x).heap[b]? = some (.cells #[v0, v1, x, v3] t (0, 0)) := set_at h
theorem set4_3 (h : w.heap[b]? = some (.cells #[v0, v1, v2, v3] t (0, 0))) : (w.setCell ⟨b, 3, none⟩ x).heap[b]? = some (.cells #[v0, v1, v2, x] t (0, 0)) := set_at h
theorem setCell_other {k : Nat} (h : w.heap[b]? = w.heap[b]?) {c : Nat} (hc : c ≠ b) : (w.setCell ⟨b, k, none⟩ x).heap[c]? = w.heap[c]? := Below.heap_setCell w ⟨b, k, none⟩ x c (by exact hc)
theorem box1 (w : World) (o : Obj) : ∃ W, w.alloc o = W ∧ Kept [] w W ∧ W.heap.size = w.heap.size + 1 ∧ W.heap[w.heap.size]? = some o := ⟨_, rfl, (Kept.refl [] w).alloc _, by simp, heap_alloc_new w _⟩
theorem box2 (w : World) (o o' : Obj) : ∃ W, (w.alloc o).alloc o' = W ∧ Kept [] w W ∧ W.heap.size = w.heap.size + 2 ∧ W.heap[w.heap.size]? = some o ∧ W.heap[w.heap.size + 1]? = some o' := by
  refine ⟨_, rfl, ((Kept.refl [] w).alloc _).alloc _, by simp, ?_, ?_⟩
  · rw [Below.heap_alloc _ _ _ (by simp)]; exact heap_alloc_new w _
  · have := heap_alloc_new (w.alloc o) o'
    simpa using this
/-- A struct of four cells that is stored whole. -/
theorem put4 (h : w.heap[b]? = some (.cells #[v0, v1, v2, v3] t (0, 0))) (x0 x1 x2 x3 : Value) : ∃ W, (((w.setCell ⟨b, 0, none⟩ x0).setCell ⟨b, 1, none⟩ x1).setCell ⟨b, 2, none⟩ x2).setCell ⟨b, 3, none⟩ x3 = W ∧ Kept [b] w W ∧ W.heap[b]? = some (.cells #[x0, x1, x2, x3] t (0, 0)) ∧ W.heap.size = w.heap.size :=
  ⟨_, rfl, ((((Kept.refl [b] w).setCell (p := ⟨b, 0, none⟩) (.inl (by simp)) x0).setCell (p := ⟨b, 1, none⟩) (.inl (by simp)) x1).setCell (p := ⟨b, 2, none⟩) (.inl (by simp)) x2).setCell (p := ⟨b, 3, none⟩) (.inl (by simp)) x3, set4_3 (set4_2 (set4_1 (set4_0 h))), by simp⟩
theorem results_cell_row2 {fn : Func} {p u : Tmp} {ty : TypeId} (h : fn.results = #[.cell p ty, .tmp u]) (tmps : Array Value) (w : World) (g : Nat) (t : TypeId) (cs : Array Value) (fr : Nat × Nat) (d : TypeDesc)
    (hp : tmps.getD p undef = .pointer (some ⟨g, 0, none⟩)) (hg : w.heap[g]? = some (.cells cs t fr)) (hu : P.underlying ty = some d) (hd : (match d with | .struct _ | .array _ _ => true | _ => false) = true) (hi : (P.info? ty).map (·.size) = some cs.size) (r : Value) (hr : tmps.getD u undef = r) :
    (results fn tmps).run P w = .ok (.tuple #[.agg cs, r]) w := by
  have hp' : tmps[p]?.getD undef = .pointer (some ⟨g, 0, none⟩) := by simpa using hp
  have hr' : tmps[u]?.getD undef = r := by simpa using hr
  simp [results, h, hp', hr', asAddr, run_loadVar_row w g t ty cs fr d hg hu hd hi]
end
end Go.Proofs.YtdadloaifebdiaaGreat
/-
  strings.Clone, and Copy of a letter.
-/
namespace Go.Proofs.YtdadloaifebdiaaGreat
set_option maxRecDepth 100000
open Go.RowKit Go.Shelf
set_option linter.unusedVariables false
def cloneS_ren : Go.Shelf.Ren := ⟨fun | 25 => 122 | n => n, fun | 9 => 9 | 3 => 3 | 4 => 4 | 37 => 22 | 0 => 0 | 47 => 189 | 5 => 5 | n => n, fun | n => n⟩
theorem cloneS : Go.Proofs.LaysPu.n25 Tryz.prog cloneS_ren := {
  mixed := by kernel_rfl
  f25 := Tryz.func122.trans (congrArg some (by kernel_rfl))
  t0 := Tryz.underlying0
  a0 := Tryz.isAgg0
  z0 := Tryz.sizeOf0
  v0 := Tryz.zeroValue0
  i0 := by kernel_rfl
  t3 := Tryz.underlying3
  a3 := Tryz.isAgg3
  z3 := Tryz.sizeOf3
  v3 := Tryz.zeroValue3
  i3 := by kernel_rfl
  t4 := Tryz.underlying4
  a4 := Tryz.isAgg4
  z4 := Tryz.sizeOf4
  v4 := Tryz.zeroValue4
  i4 := by kernel_rfl
  t5 := Tryz.underlying5
  a5 := Tryz.isAgg5
  z5 := Tryz.sizeOf5
  v5 := Tryz.zeroValue5
  i5 := by kernel_rfl
  t9 := Tryz.underlying9
  a9 := Tryz.isAgg9
  z9 := Tryz.sizeOf9
  v9 := Tryz.zeroValue9
  i9 := by kernel_rfl
  t37 := Tryz.underlying22
  a37 := Tryz.isAgg22
  z37 := Tryz.sizeOf22
  v37 := Tryz.zeroValue22
  i37 := by kernel_rfl
  t47 := Tryz.underlying189
  a47 := Tryz.isAgg189
  z47 := Tryz.sizeOf189
  v47 := Tryz.zeroValue189
  i47 := by kernel_rfl }
section
variable {w : World}
set_option maxHeartbeats 1000000 in
theorem clone32 (s : List UInt8) (hs : s.length ≤ 281474976710656) : Calls Tryz.prog 101 #[Sv s] w fun e w' => e = .returned (Sv s) ∧ Kept [] w w' := by
  have h : Calls Tryz.prog 122 #[Sv s] w fun e w' => e = .returned (Sv s) ∧ Below w.heap.size w w' := AnyPu.stringslite_Clone cloneS ⟨s.toArray⟩ w (by simpa [ByteArray.size] using hs)
  go_enter Tryz.func101, Tryz.ntmps101
  go_wp2_with (go_at_call 122; refine h.mono ?_; rintro e w1 ⟨rfl, hb⟩)
  go_ret
  exact ⟨rfl, ⟨hb.os, hb.tape, hb.output, hb.size, fun k hk _ => hb.block k hk⟩⟩
set_option maxRecDepth 100000 in
set_option maxHeartbeats 1000000 in
/-- Copy: the same letter, its Args in new memory. -/
theorem copy17 (x : Lt) (a : Option Addr) (c : Nat) (hx : ReadsJ w (.slice a x.args.length c) x.args) (hs : x.fr.length ≤ 100000) (hl : x.args.length ≤ 100000) :
    Calls Tryz.prog 93 #[Lv x a c] w fun e w' => ∃ a' c', e = .returned (Lv x a' c') ∧ OwnsJ w' (.slice a' x.args.length c') x.args ∧ Kept [] w w' ∧ Fresh w (.slice a' x.args.length c') := by
  have HC : Hid (∀ W, Calls Tryz.prog 101 #[Sv x.fr] W fun e w' => e = .returned (Sv x.fr) ∧ Kept [] W w') := fun W => clone32 x.fr (by omega)
  have HX := Hid.mk hx
  clear hx
  go_enter Tryz.func93, Tryz.ntmps93
  go_wp2_with fail
  obtain ⟨W0, e0, k0, hz0, hb0, hb1⟩ := box2 w (.cells #[Sv x.fr, .int .u64 (x.ser : Int), .int .i64 x.kind, .slice a x.args.length c] 90) (.cells #[.string { data := #[] }, .int .u64 0, .int .i64 0, .slice none 0 0] 90)
  rw [e0]
  clear e0
  refine (HC.out _).mono ?_
  rintro e w1 ⟨rfl, k1⟩
  have hb2 := k1.keeps hb0 (by simp)
  have hb3 := k1.keeps hb1 (by simp)
  have k2 := k0.trans k1 (by simp)
  have hz2 := k1.size
  have hz3 : w.heap.size + 2 ≤ w1.heap.size := by omega
  have HZ := Hid.mk hz3
  clear hz3 hz2 hz0 hb0 hb1
  obtain ⟨c0, -, -, c3⟩ := cells4 hb2
  obtain ⟨f0, -, -, f3⟩ := free4 hb2
  have k3 : Kept [] w (w1.setCell ⟨w.heap.size, 0, none⟩ (Sv x.fr)) := k2.setCell (.inr (Nat.le_refl _)) _
  have hb4 := set4_0 (x := Sv x.fr) hb2
  obtain ⟨a2, c2, w2, hrun, ho, hg, hN⟩ := run_appendR rt23 (w1.setCell ⟨w.heap.size, 0, none⟩ (Sv x.fr)) 88 (.slice none 0 0) [] (OwnsR.nil 2 1 _) _ (CJ x.args) (CJ_wide _) (HX.out.kept k3 (by simp)) (by rw [CJ_length]; simp; omega)
  rw [List.nil_append, List.length_nil, Nat.zero_add, CJ_length] at *
  have hz4 : w.heap.size + 2 ≤ w2.heap.size := by
    have := hg.size
    have h := HZ.out
    simp at this
    omega
  have hb5 : w2.heap[w.heap.size]? = _ := (hg.block w.heap.size (by have := HZ.out; simp; omega) (by simp [Value.ownBlock])).trans hb4
  have hb6 : w2.heap[w.heap.size + 1]? = _ := (hg.block (w.heap.size + 1) (by have := HZ.out; simp; omega) (by simp [Value.ownBlock])).trans ((setCell_other (b := w.heap.size) (k := 0) rfl (by omega)).trans hb3)
  have k4 : Kept [] w w2 := k3.grown hg (by simp [Value.ownBlock])
  obtain ⟨c4, c5, c6, c7⟩ := cells4 hb5
  obtain ⟨f4, f5, f6, f7⟩ := free4 hb5
  obtain ⟨d4, d5, d6, d7⟩ := cells4 hb6
  obtain ⟨g4, g5, g6, g7⟩ := free4 hb6
  go_wp2_with (at_builtin; refine wpList_append_run 88 88 _ _ rfl (by rfl) _ _ rfl rfl _ _ hrun ?_)
  have h8 := set4_3 (x := .slice a2 x.args.length c2) (set4_2 (x := .int .i64 x.kind) (set4_1 (x := .int .u64 (x.ser : Int)) (set4_0 (x := Sv x.fr) ((setCell_other (w := w2) (b := w.heap.size) (k := 3) (x := .slice a2 x.args.length c2) rfl (by omega : w.heap.size + 1 ≠ w.heap.size)).trans hb6))))
  have k8 := ((((k4.setCell (p := ⟨w.heap.size, 3, none⟩) (.inr (Nat.le_refl _)) (.slice a2 x.args.length c2)).setCell (p := ⟨w.heap.size + 1, 0, none⟩) (.inr (Nat.le_succ _)) (Sv x.fr)).setCell (p := ⟨w.heap.size + 1, 1, none⟩) (.inr (Nat.le_succ _)) (.int .u64 (x.ser : Int))).setCell (p := ⟨w.heap.size + 1, 2, none⟩) (.inr (Nat.le_succ _)) (.int .i64 x.kind)).setCell (p := ⟨w.heap.size + 1, 3, none⟩) (.inr (Nat.le_succ _)) (.slice a2 x.args.length c2)
  have hfr : ∀ g, (Value.slice a2 x.args.length c2).ownBlock = some g → w.heap.size + 2 ≤ g := fun g hg' => by
    rcases hN g hg' with h | h
    · simp [Value.ownBlock] at h
    · have := HZ.out
      simp at h
      omega
  have kT : Kept [w.heap.size, w.heap.size + 1] w2 _ := ((((((Kept.refl [w.heap.size, w.heap.size + 1] w2).setCell (p := ⟨w.heap.size, 3, none⟩) (.inl (by simp)) (.slice a2 x.args.length c2)).setCell (p := ⟨w.heap.size + 1, 0, none⟩) (.inl (by simp)) (Sv x.fr)).setCell (p := ⟨w.heap.size + 1, 1, none⟩) (.inl (by simp)) (.int .u64 (x.ser : Int))).setCell (p := ⟨w.heap.size + 1, 2, none⟩) (.inl (by simp)) (.int .i64 x.kind)).setCell (p := ⟨w.heap.size + 1, 3, none⟩) (.inl (by simp)) (.slice a2 x.args.length c2))
  refine bodyPost_ret (results_cell_row (p := 2) (ty := 90) rfl _ _ (w.heap.size + 1) 90 _ (0, 0) _ rfl h8 Tryz.underlying90 rfl (by kernel_rfl)) rfl ?_
  refine ⟨a2, c2, rfl, OwnsR.kept ho kT (fun g hg' hm => ?_), k8, fun g hg' => by have := hfr g hg'; omega⟩
  have := hfr g hg'
  simp at hm
  omega
set_option maxRecDepth 100000 in
set_option maxHeartbeats 1000000 in
/-- The document's Copy. -/
theorem copy25 (x : Lt) (a : Option Addr) (c : Nat) (hx : ReadsJ w (.slice a x.args.length c) x.args) (hl : x.args.length ≤ 100000) :
    Calls Tryz.prog 98 #[Lv x a c] w fun e w' => ∃ a' c', e = .returned (Lv x a' c') ∧ OwnsJ w' (.slice a' x.args.length c') x.args ∧ Kept [] w w' ∧ Fresh w (.slice a' x.args.length c') := by
  have HX := Hid.mk hx
  clear hx
  go_enter Tryz.func98, Tryz.ntmps98
  obtain ⟨W0, e0, k0, hz0, hb0, hb1⟩ := box2 w (.cells #[Sv x.fr, .int .u64 (x.ser : Int), .int .i64 x.kind, .slice a x.args.length c] 90) (.cells #[.string { data := #[] }, .int .u64 0, .int .i64 0, .slice none 0 0] 90)
  have hO : OwnsR 2 1 (W0.alloc (.cells #[] 2)) (.slice (some ⟨w.heap.size + 2, 0, none⟩) 0 0) [] := by
    have := World.ownsRow_made (base := 0) (e := 2) (size := 1) W0 #[] 0 (Nat.zero_le _) (by simp) (by simp)
    rw [hz0] at this
    exact this
  have k1 := k0.alloc (.cells #[] 2)
  have hb2 : (W0.alloc (.cells #[] 2)).heap[w.heap.size]? = _ := (Below.heap_alloc _ _ _ (by omega)).trans hb0
  have hb3 : (W0.alloc (.cells #[] 2)).heap[w.heap.size + 1]? = _ := (Below.heap_alloc _ _ _ (by omega)).trans hb1
  have HZ : Hid (w.heap.size + 3 = (W0.alloc (.cells #[] 2)).heap.size) := Hid.mk (by simp [hz0])
  rw [← e0] at hO k1 hb2 hb3 HZ
  clear e0 hb0 hb1 hz0 k0
  generalize hW1 : ((w.alloc (.cells #[Sv x.fr, .int .u64 (x.ser : Int), .int .i64 x.kind, .slice a x.args.length c] 90)).alloc (.cells #[.string { data := #[] }, .int .u64 0, .int .i64 0, .slice none 0 0] 90)).alloc (.cells #[] 2) = W1 at hO k1 hb2 hb3 HZ
  obtain ⟨a2, c2, w2, hrun, ho, hg, hN⟩ := run_appendR rt23 W1 88 _ [] hO _ (CJ x.args) (CJ_wide _) (HX.out.kept k1 (by simp)) (by rw [CJ_length]; simp; omega)
  rw [List.nil_append, List.length_nil, Nat.zero_add, CJ_length] at *
  rw [← hW1] at hrun
  have hz4 : Hid (w.heap.size + 3 ≤ w2.heap.size) := by
    have := hg.size
    have h := HZ.out
    show _ ≤ _
    omega
  have hb5 : w2.heap[w.heap.size]? = _ := (hg.block w.heap.size (by have := HZ.out; omega) (by simp [Value.ownBlock])).trans hb2
  have hb6 : w2.heap[w.heap.size + 1]? = _ := (hg.block (w.heap.size + 1) (by have := HZ.out; omega) (by simp [Value.ownBlock])).trans hb3
  have k4 : Kept [] w w2 := k1.grown hg (by simp [Value.ownBlock])
  have hfr : Hid (∀ g, (Value.slice a2 x.args.length c2).ownBlock = some g → w.heap.size + 2 ≤ g) := fun g hg' => by
    rcases hN g hg' with h | h
    · simp [Value.ownBlock] at h; omega
    · have := HZ.out
      omega
  clear hW1 hO hb2 hb3 k1 hg hN HZ
  obtain ⟨c4, c5, c6, c7⟩ := cells4 hb5
  obtain ⟨f4, f5, f6, f7⟩ := free4 hb5
  obtain ⟨d4, d5, d6, d7⟩ := cells4 hb6
  obtain ⟨g4, g5, g6, g7⟩ := free4 hb6
  go_wp2_with (at_builtin; refine wpList_append_run 88 88 _ _ rfl (by rfl) _ _ rfl rfl _ _ hrun ?_)
  have h7 := (setCell_other (w := w2) (b := w.heap.size) (k := 3) (x := .slice a2 x.args.length c2) rfl (by omega : w.heap.size + 1 ≠ w.heap.size)).trans hb6
  have k7 := k4.setCell (p := ⟨w.heap.size, 3, none⟩) (.inr (Nat.le_refl _)) (.slice a2 x.args.length c2)
  have kT7 := (Kept.refl [w.heap.size, w.heap.size + 1] w2).setCell (p := ⟨w.heap.size, 3, none⟩) (.inl (by simp)) (.slice a2 x.args.length c2)
  obtain ⟨W8, e8, k8, h8, -⟩ := put4 h7 (Sv x.fr) (.int .u64 (x.ser : Int)) (.int .i64 x.kind) (.slice a2 x.args.length c2)
  have kT8 := kT7.trans k8 (by simp)
  rw [e8]
  refine bodyPost_ret (results_cell_row (p := 2) (ty := 90) rfl _ _ (w.heap.size + 1) 90 _ (0, 0) _ rfl h8 Tryz.underlying90 rfl (by kernel_rfl)) rfl ?_
  refine ⟨a2, c2, rfl, OwnsR.kept ho kT8 (fun g hg' hm => ?_), k7.trans k8 (by simp), fun g hg' => by have := hfr.out g hg'; omega⟩
  have := hfr.out g hg'
  simp at hm
  omega
end
end Go.Proofs.YtdadloaifebdiaaGreat
/-
  Writer.Number: what it lays.
-/
namespace Go.Proofs.YtdadloaifebdiaaGreat
set_option maxRecDepth 100000
open Go.RowKit
attribute [local go_sem ↓] Go.wp_at_zero Go.wp_at_succ
theorem info5 : (Tryz.prog.info? 5).map (fun i => (i.zero, i.size, i.bytes)) = some (some (.int .u8 0), 1, 1) := by kernel_rfl
set_option maxHeartbeats 400000 in
theorem wnum_nil (n : Int) (w : World) : Calls Tryz.prog 32 #[.pointer none, .int .u64 n] w fun e w' => e = .returned (.tuple #[]) ∧ w = w' := by
  go_enter Tryz.func32, Tryz.ntmps32
  go_wp2
  refine bodyPost_ret (results_none rfl _ _ _) rfl ?_
  exact ⟨rfl, rfl⟩
set_option maxHeartbeats 1000000 in
theorem wnum_small (p : Nat) (v : Value) (l : List UInt8) (n : Nat) (w : World) (hW : IsW 144 5 w p v l) (hn : n ≤ 247) (hb : l.length + 1 ≤ 140737488355328) :
    Calls Tryz.prog 32 #[.pointer (some ⟨p, 0, none⟩), .int .u64 (n : Int)] w fun e w' => e = .returned (.tuple #[]) ∧ Laid 144 5 w p v (l ++ [UInt8.ofNat n]) w' := by
  obtain ⟨i0, hi, hz0, hz1, hz2⟩ := info_parts info5
  have hcell := cell_of_one hW.box
  have hfree := free_of_one hW.box
  have hlt := hW.lt
  have hown : w.ownsRow 0 5 1 v l.length (C8 l) := hW.own
  go_enter Tryz.func32, Tryz.ntmps32
  go_wp2_with (at_builtin; refine wpList_append_lies _ rfl _ _ _ rfl 0 5 i0 _ 1 1 Tryz.underlying22 hi hz0 hz1 hz2 rfl (by omega) v l.length (C8 l) rfl (hown.alloc _) ⟨w.heap.size, 0, none⟩ 1 1 [.int .u8 (n : Int)] rfl rfl (World.news_of_block (cs := #[.int .u8 (n : Int)]) (t := 5) (fr := (0, 0)) (heap_alloc_new w _)) (by simp [Value.oneCell']) (by omega) (by unfold maxLen; omega) (by omega) (by omega) (w.heap.size + 1) (by simp) ?_; intro g cap w1 hown1 hgrow hat hgl; obtain ⟨hc1, hf1⟩ := ready_store hW ((Kept.refl [] w).alloc _) hgrow)
  refine bodyPost_ret (results_none rfl _ _ _) rfl ?_
  exact ⟨rfl, laid_step hW ((Kept.refl [] w).alloc _) (own_of (by omega) hown1) hgrow (new_of hat)⟩
set_option maxRecDepth 100000 in
set_option maxHeartbeats 1000000 in
theorem wnum_great (p : Nat) (v : Value) (l : List UInt8) (n : Nat) (w : World) (hd : UInt8) (hhd : Hid (hd = UInt8.ofNat (247 + width n))) (hW : IsW 144 5 w p v l) (hn : 248 ≤ n) (hn2 : n < 18446744073709551616) (hb : l.length + 9 ≤ 140737488355328) :
    Calls Tryz.prog 32 #[.pointer (some ⟨p, 0, none⟩), .int .u64 (n : Int)] w fun e w' => e = .returned (.tuple #[]) ∧ Laid 144 5 w p v (l ++ (hd :: digits (width n) n)) w' := by
  obtain ⟨i0, hi, hz0, hz1, hz2⟩ := info_parts info5
  have hcell := cell_of_one hW.box
  have hfree := free_of_one hW.box
  have hlt := hW.lt
  have hown : w.ownsRow 0 5 1 v l.length (C8 l) := hW.own
  have hwp := width_pos n
  obtain ⟨hw1, hw8⟩ := hwp
  go_enter Tryz.func32, Tryz.ntmps32
  go_wp2_with (first | (go_at_call 87; refine (len_any n _ hn hn2).mono ?_; rintro e w' ⟨m, rfl, hm0, hm1, hm2, rfl⟩; have HM : Hid ((m + 7) / 8 = (width n : Int)) := hm2; clear hm2) | (at_builtin; refine wpList_append_lies _ rfl _ _ _ rfl 0 5 i0 _ 1 1 Tryz.underlying22 hi hz0 hz1 hz2 rfl (by omega) v l.length (C8 l) rfl (hown.alloc _) ⟨w.heap.size, 0, none⟩ 1 1 [.int .u8 (247 + (m + 7) / 8)] rfl rfl (World.news_of_block (cs := #[.int .u8 (247 + (m + 7) / 8)]) (t := 5) (fr := (0, 0)) (heap_alloc_new w _)) (by simp [Value.oneCell']) (by omega) (by unfold maxLen; omega) (by omega) (by omega) (w.heap.size + 1) (by simp) ?_; intro g cap w1 hown1 hgrow hat hgl; obtain ⟨hc1, hf1⟩ := ready_store hW ((Kept.refl [] w).alloc _) hgrow))
  rw [HM.out]
  have L1 := laid_step hW ((Kept.refl [] w).alloc _) (own_of (n := 247 + width n) (by have := HM.out; omega) hown1) hgrow (new_of hat)
  rw [← hhd.out] at L1
  clear hown1 hgrow hat hgl hc1 hf1 hcell hfree hown hm0 hm1 HM
  go_loopw [5] (fun i wr => ∃ j : Nat, j ≤ width n ∧ i = .int .i64 ((j : Int) - 1) ∧ Laid 144 5 w p v (l ++ [hd] ++ (digits (width n) n).take (width n - j)) wr) (fun i _ => (intOf i + 1).toNat)
  case atStart => exact ⟨width n, Nat.le_refl _, rfl, by simpa using L1⟩
  case round =>
    obtain ⟨j, hj, rfl, v1, hW1, hk1, hn1⟩ := hrel
    clear L1
    have hll : (l ++ [hd] ++ (digits (width n) n).take (width n - j)).length ≤ l.length + 8 + 1 - j := by
      simp only [List.length_append, List.length_take, digits_length, List.length_cons, List.length_nil]; omega
    have HD : 1 ≤ j → Hid (l ++ [hd] ++ (digits (width n) n).take (width n - (j - 1)) = l ++ [hd] ++ (digits (width n) n).take (width n - j) ++ [UInt8.ofNat (n / 256 ^ (j - 1))]) := fun h1 => by
      show _ = _
      rw [digits_take (width n) n j h1 hj, List.append_assoc _ (List.take _ _)]
    have HE : j = 0 → Hid (l ++ [hd] ++ (digits (width n) n).take (width n - j) = l ++ (hd :: digits (width n) n)) := by
      rintro rfl
      show _ = _
      rw [Nat.sub_zero, List.take_of_length_le (by rw [digits_length]; exact Nat.le_refl _)]; simp
    generalize (l ++ [hd] ++ (digits (width n) n).take (width n - j)) = l1 at hW1 hll HD HE
    have hown : wr.ownsRow 0 5 1 v1 l1.length (C8 l1) := hW1.own
    have hcell := cell_of_one hW1.box
    have hfree := free_of_one hW1.box
    by_cases hj0 : j = 0
    · have HE0 := HE hj0
      clear HD HE
      subst hj0
      go_wp2
      go_end0
      exact ⟨rfl, v1, by rw [← HE0.out]; exact hW1, hk1, hn1⟩
    · obtain ⟨i, rfl⟩ : ∃ i, j = i + 1 := ⟨j - 1, by omega⟩
      have ei : ((i + 1 : Nat) : Int) - 1 = (i : Int) := by omega
      rw [ei]
      clear ei
      have hi7 : (i : Int) ≤ 7 := by omega
      have HD1 := HD (by omega)
      have hwr : IntKind.i64.wrap (8 * (i : Int)) = 8 * (i : Int) := by rw [IntKind.wrap_i64]; omega
      have hltr := hW1.lt
      clear HD HE
      go_wp2_with fail
      go_region_law ((refine step_append_lies _ (by rfl) _ _ _ (by rfl) 0 5 i0 _ 1 1 Tryz.underlying22 hi hz0 hz1 hz2 rfl (by omega) v1 l1.length (C8 l1) (by rfl) ((hown.alloc _).drew) ⟨wr.heap.size, 0, none⟩ 1 1 [_] (by rfl) (by rfl) (World.news_of_block (cs := #[_]) (t := 5) (fr := (0, 0)) (heap_alloc_new wr _)) (by simp [Value.oneCell']) (by omega) (by unfold maxLen; omega) (by omega) (by omega) (wr.heap.size + 1) (by simp) ?_; intro g2 cap2 w2 hown2 hgrow2 hat2 hgl2; obtain ⟨hc2, hf2⟩ := ready_store hW1 ((Kept.refl [] wr).alloc _).drew hgrow2))
      all_goals
        have L2 := laid_step hW1 ((Kept.refl [] wr).alloc _).drew (own_of (byte_shr n i) hown2) hgrow2 (new_of hat2)
        have L3 := Laid.trans hk1 hn1 L2
        clear hown2 hgrow2 hat2 hgl2 hc2 hf2 hown hcell hfree hll
        go_wp2
        go_roundw
        case rel => exact ⟨i, by omega, rfl, by have := HD1.out; rw [Nat.add_sub_cancel] at this; rw [this]; exact L3⟩
        case measure => simp [intOf]
/-- Writer.Number lays a number's bytes. -/
theorem wnum_any (p : Nat) (v : Value) (l : List UInt8) (n : Nat) (w : World) (hW : IsW 144 5 w p v l) (hn : n < 18446744073709551616) (hb : l.length + 9 ≤ 140737488355328) :
    Calls Tryz.prog 32 #[.pointer (some ⟨p, 0, none⟩), .int .u64 (n : Int)] w fun e w' => e = .returned (.tuple #[]) ∧ Laid 144 5 w p v (l ++ enc n) w' := by
  by_cases h : n ≤ 247
  · rw [show enc n = [UInt8.ofNat n] by unfold enc; rw [if_pos h]]
    exact wnum_small p v l n w hW h (by omega)
  · rw [show enc n = UInt8.ofNat (247 + width n) :: digits (width n) n by unfold enc; rw [if_neg h]]
    exact wnum_great p v l n w _ rfl hW (by omega) hn hb
end Go.Proofs.YtdadloaifebdiaaGreat
