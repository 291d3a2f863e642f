import Derived.Deep.MidRow
import Derived.Deep.WholeRow
import Derived.Test.YtngnenbidpojeaaGreatDoorT09
import Derived.Test.YtngnenbidpojeaaGreatDoorT34
/-
 inOrder.
-/
namespace Go.Proofs.YtngnenbidpojeaaGreatDoor
set_option maxRecDepth 100000
open Go.RowKit Go.Shelf
set_option linter.unusedVariables false
attribute [local go_sem] Oper.semAt_some
def ltr (qs : List Yq) (x : Ix qs) : Ot := ot (qs[x.1]'x.2)
theorem back_map (qs : List Yq) (h : 0 < qs.length) (k : Nat) (hk : k ≤ qs.length) : (back qs h k).map (ltr qs) = ((qs.map ot).reverse).take k := by
 refine List.ext_getElem? fun j => ?_
 by_cases hj : j < k
 ·rw [List.getElem?_take_of_lt hj, List.getElem?_reverse (by simp; omega), List.getElem?_map, back, List.getElem?_map, List.getElem?_map, List.getElem?_range hj]
  simp only [Option.map_some, List.length_map]
  rw [List.getElem?_eq_getElem (by omega)]
  rfl
 ·rw [List.getElem?_eq_none (by simp [back]; omega), List.getElem?_eq_none (by simp; omega)]
theorem seq_back (n Bs b off cap : Nat) (qs : List Yq) (hbig : qs.length ≤ 1000000) (w : World) (hbl : b < w.heap.size)
  (hBs : w.heap[Bs]? = some (.cells #[.slice (some ⟨b, off, none⟩) qs.length cap] 127 (0, 0))) (hc : ∀ W', W'.heap[b]? = w.heap[b]? → ReadsR 5 W' (.slice (some ⟨b, off, none⟩) qs.length cap) (CY qs)) :
  SeqStopsK Fence.wide n Tryz.prog 159 #[.pointer (some ⟨Bs, 0, none⟩)] (fun x : Ix qs => #[Value.int .i64 (x.1 : Int), yvl (qs[x.1]'x.2)]) (KpB Bs b) (fun ys => ys.map (ltr qs) = (qs.map ot).reverse) (fun pre => ∃ k, pre.map (ltr qs) = ((qs.map ot).reverse).take k) qs.length w := fun l J Jx W hW _ _ hY h0 => by
 have hBW : W.heap[Bs]? = some (.cells #[.slice (some ⟨b, off, none⟩) qs.length cap] 127 (0, 0)) := (hW.block Bs (lt_of_block hBs)).trans hBs
 by_cases hp : 0 < qs.length
 ·refine (backward1 n l Bs b off cap qs hp hbig J Jx hY W hBW (fun W' e => hc W' (e.trans (hW.block b hbl))) h0).mono ?_
  rintro e W' ⟨hv, (⟨ys, rfl, hJ⟩ | ⟨pre, ⟨k, hk, rfl⟩, hJ⟩)⟩
  ·exact ⟨hv, .inl ⟨_, (back_map qs hp _ (Nat.le_refl _)).trans (List.take_of_length_le (by simp)), hJ⟩⟩
  ·exact ⟨hv, .inr ⟨_, ⟨k, back_map qs hp k hk⟩, hJ⟩⟩
 ·have hq : qs = [] := List.eq_nil_of_length_eq_zero (by omega)
  subst hq
  refine (backward_none n l Bs (some ⟨b, off, none⟩) cap W (by simp [World.cell?, hBW])).mono ?_
  rintro e W' ⟨hv, rfl⟩
  exact ⟨hv, .inl ⟨[], rfl, h0⟩⟩
theorem wpListIn_load_run {F : Fence} {n : Nat} {w : World} {ops : Array Oper} {rest : List Oper} {o : Oper} {a : Act} {Q : Exit → Act → World → Prop} (t : TypeId) (x : Operand)
  (hop : o.op = .load t x) (hg : o.guard = none) (vx : Value) (hx : a.eval x = vx) (v : Value) (hrun : (Instr.loadAt t vx).run Tryz.prog w = .ok v w)
  (h : wpListIn F n Tryz.prog ops Q rest (a.put o.dst v) w) : wpListIn F n Tryz.prog ops Q (o :: rest) a w := by
 refine wpListIn_plain hg fun K hK' => ?_
 unfold Oper.wpIn
 refine ⟨?_, ?_⟩
 ·simp [Oper.about, hop]
 ·rw [Oper.semAt_plain F _ _ (by rw [hop]; intro c hc'; cases hc')]
  unfold execOp
  simp only [hop, hx, Sem.run_bind, Sem.run_pure, Result.andThen_ok, hrun]
  exact hK' _ _ h
theorem wpListIn_alloc_run {F : Fence} {n : Nat} {w : World} {ops : Array Oper} {rest : List Oper} {o : Oper} {a : Act} {Q : Exit → Act → World → Prop} (t : TypeId)
  (hop : o.op = .alloc t) (hg : o.guard = none) (v : Value) (w' : World) (hrun : (Instr.alloc t true (.tuple #[])).run Tryz.prog w = .ok v w')
  (h : wpListIn F n Tryz.prog ops Q rest (a.put o.dst v) w') : wpListIn F n Tryz.prog ops Q (o :: rest) a w := by
 refine wpListIn_plain hg fun K hK' => ?_
 unfold Oper.wpIn
 refine ⟨?_, ?_⟩
 ·simp [Oper.about, hop]
 ·rw [Oper.semAt_plain F _ _ (by rw [hop]; intro c hc'; cases hc')]
  unfold execOp
  simp only [hop, Sem.run_bind, Sem.run_pure, Result.andThen_ok, hrun]
  exact hK' _ _ h
theorem wpListIn_store_run {F : Fence} {n : Nat} {w : World} {ops : Array Oper} {rest : List Oper} {o : Oper} {a : Act} {Q : Exit → Act → World → Prop} (t : TypeId) (x y : Operand)
  (hop : o.op = .store t x y) (hg : o.guard = none) (vx vy : Value) (hx : a.eval x = vx) (hy : a.eval y = vy) (w' : World) (hrun : (Instr.storeAt t vx vy).run Tryz.prog w = .ok () w')
  (h : wpListIn F n Tryz.prog ops Q rest (a.put o.dst undef) w') : wpListIn F n Tryz.prog ops Q (o :: rest) a w := by
 refine wpListIn_plain hg fun K hK' => ?_
 unfold Oper.wpIn
 refine ⟨?_, ?_⟩
 ·simp [Oper.about, hop]
 ·rw [Oper.semAt_plain F _ _ (by rw [hop]; intro c hc'; cases hc')]
  unfold execOp
  simp only [hop, hx, hy, Sem.run_bind, Sem.run_pure, Result.andThen_ok, hrun]
  exact hK' _ _ h
def zeroT : List Value := (CK (List.replicate 64 ⟨[], 0⟩)).flatten
theorem alloc60 (W : World) : (Instr.alloc 165 true (.tuple #[])).run Tryz.prog W = .ok (.pointer (some ⟨W.heap.size, 0, none⟩)) (W.alloc (.cells zeroT.toArray 165)) := by kernel_rfl
theorem size60 : (Tryz.prog.info? 165).map (·.size) = some 128 := by kernel_rfl
def LeftAt (w : World) (pl : Nat) (K : List La) : Prop := ∃ cs : Array Value, w.heap[pl]? = some (.cells cs 165 (0, 0)) ∧ cs.size = 128 ∧ ∀ j y, K[j]? = some y → cs[j * 2 + 1]? = some (Uv y.s)
theorem block_own {A B : World} {row : Option Nat} (hg : A.grownBy B row) (hr : ∀ r, row = some r → ∃ o : Obj, A.heap[r]? = some o ∧ o.isCells = false) {b : Nat} {cs : Array Value} {t : TypeId} {fz : Nat × Nat} (h : A.heap[b]? = some (.cells cs t fz)) : B.heap[b]? = some (.cells cs t fz) := by
 rw [hg.block b (lt_of_block h) (fun e => by
  obtain ⟨o, h1, h2⟩ := hr b e.symm
  rw [h] at h1
  injection h1 with h1
  subst h1
  cases h2)]
 exact h
section
variable {w0 w w' : World} {p : Nat} {own : List UInt8} {K : List La} {qs : List Yq}
theorem LeftAt.kept {S : List Nat} {pl : Nat} (h : LeftAt w pl K) (k : Kept S w w') (hS : pl ∉ S) : LeftAt w' pl K := by
 obtain ⟨cs, h1, h2, h3⟩ := h
 exact ⟨cs, k.keeps h1 hS, h2, h3⟩
theorem LeftAt.gr {A B : World} {row : Option Nat} {pl : Nat} (h : LeftAt A pl K) (hg : A.grownBy B row) (hr : ∀ r, row = some r → ∃ o : Obj, A.heap[r]? = some o ∧ o.isCells = false) : LeftAt B pl K := by
 obtain ⟨cs, h1, h2, h3⟩ := h
 exact ⟨cs, block_own hg hr h1, h2, h3⟩
theorem LeftAt.cell {pl : Nat} (h : LeftAt w pl K) {j : Nat} {y : La} (hj : K[j]? = some y) : w.cell? ⟨pl, j * 2 + 1, none⟩ = some (Uv y.s) ∧ w.frozen? ⟨pl, j * 2 + 1, none⟩ = false := by
 obtain ⟨cs, h1, h2, h3⟩ := h
 exact ⟨by simp only [World.cell?, h1]; exact h3 j y hj, by simp [World.frozen?, h1]⟩
theorem LeftAt.set {pl : Nat} (h : LeftAt w pl K) {to : List UInt8} (hh : hasK K to = true) (hK : K.length ≤ 64) (s : Nat) : LeftAt (w.setCell ⟨pl, pla K to * 2 + 1, none⟩ (Uv s)) pl (setK K to s) := by
 obtain ⟨t, g1, g2⟩ := has_at hh
 have hlt := get_lt g1
 obtain ⟨cs, h1, h2, h3⟩ := h
 refine ⟨_, set_at h1, by simp [h2], fun j y hy => ?_⟩
 rw [setK_has s hh] at hy
 rw [Array.getElem?_setIfInBounds]
 by_cases e : pla K to = j
 ·subst e
  rw [List.getElem?_set_self hlt] at hy
  injection hy with hy
  subst hy
  rw [if_pos rfl, if_pos (by omega)]
 ·rw [List.getElem?_set_ne e] at hy
  rw [if_neg (by omega)]
  exact h3 j y hy
def Rnd (W4 : World) (pl B2 : Nat) (K : List La) (qs : List Yq) (pre : List (Ix qs)) (W : World) : Prop := ∃ K', runB K (pre.map (ltr qs)) = some K' ∧ K'.map (·.k) = K.map (·.k) ∧ LeftAt W pl K' ∧ Kept [pl] W4 W ∧ ∀ y ∈ K', U64 y.s
def RndX (W4 : World) (pl B2 : Nat) (K : List La) (qs : List Yq) (c : Code) (pre : List (Ix qs)) (W : World) : Prop := c = .ret ∧ runB K (pre.map (ltr qs)) = none ∧ W.heap[B2]? = some (.cells #[.bool false] 4 (0, 0)) ∧ Kept [pl, B2] W4 W
theorem rnd_own {W4 : World} {pl B2 : Nat} : OwnFrom W4.heap.size (fun (pre : List (Ix qs)) W => Rnd W4 pl B2 K qs pre W) := fun pre A B row h hg hr => by
 obtain ⟨K', h1, h2, h3, h4, h5⟩ := h
 exact ⟨K', h1, h2, h3.gr hg (fun r e => (hr r e).2), h4.grown hg (fun r e => .inr (hr r e).1), h5⟩
theorem rndx_own {W4 : World} {pl B2 : Nat} (c : Code) : OwnFrom W4.heap.size (fun (pre : List (Ix qs)) W => RndX W4 pl B2 K qs c pre W) := fun pre A B row h hg hr => by
 obtain ⟨h1, h2, h3, h4⟩ := h
 exact ⟨h1, h2, block_own hg (fun r e => (hr r e).2) h3, h4.grown hg (fun r e => .inr (hr r e).1)⟩
theorem keeps_of {S : List Nat} {B : Nat} (k : Kept S w w') (hS : ∀ x ∈ S, ∃ cs ty fr, w.heap[x]? = some (.cells cs ty fr)) : KeepsFrom B w w' := ⟨k.size, fun x o _ hx ho => k.keeps hx (fun hm => by
 obtain ⟨cs, ty, fr, hc⟩ := hS x hm
 rw [hc] at hx
 cases hx
 cases ho)⟩
def frI (p b1 pl bS : Nat) (CA : Array Value) (n j : Nat) (y : Yq) (g : Nat) : Act := { tmps := #[Value.pointer (some ⟨p, 0, none⟩), Value.pointer (some ⟨b1, 0, none⟩), Value.pointer (some ⟨b1 + 1, 0, none⟩), Value.pointer (some ⟨pl, 0, none⟩), undef, Value.pointer (some ⟨g, 0, none⟩), undef, undef, Value.pointer (some ⟨p, 0, none⟩), Value.pointer (some ⟨p, 0, none⟩), Value.pointer (some ⟨p, 1, none⟩), Value.agg CA, Value.pointer (some ⟨p, 0, none⟩), Value.pointer (some ⟨p, 0, none⟩), Value.pointer (some ⟨p, 130, none⟩), Value.pointer (some ⟨p, 0, none⟩), Value.pointer (some ⟨p, 0, none⟩), Value.pointer (some ⟨p, 290, none⟩), Value.int .i64 (n : Int), Value.slice (some ⟨p, 130, none⟩) n 32, Value.func (Fn.func 159) #[] #[Value.pointer (some ⟨bS, 0, none⟩)], Value.int .i64 (j : Int), yvl y, undef, undef, undef, undef, undef, undef, undef, undef, undef, undef, undef, undef, undef, undef, undef, undef, undef, undef, undef, undef, undef, undef, undef, undef, undef, undef, undef, undef, undef, undef, undef, undef, undef], defers := [] }
def AxI (p b1 pl bS : Nat) (CA : Array Value) (qs : List Yq) (x : Ix qs) (a' : Act) (W : World) : Prop := ∃ g, a' = frI p b1 pl bS CA qs.length x.1 (qs[x.1]'x.2) g ∧ W.heap[g]? = some (.cells #[Sv (qs[x.1]'x.2).to, Sv (qs[x.1]'x.2).q.x.fr, .int .u64 ((qs[x.1]'x.2).q.x.ser : Int), .int .i64 (qs[x.1]'x.2).q.x.kind, (qs[x.1]'x.2).q.sl] 130 (0, 0))
theorem axI_own {p b1 pl bS : Nat} {CA : Array Value} {qs : List Yq} {B : Nat} (x : Ix qs) (a' : Act) : OwnFrom B (fun (_ : Unit) W => AxI p b1 pl bS CA qs x a' W) := fun _ A B' row h hg hr => by
 obtain ⟨g, h1, h2⟩ := h
 exact ⟨g, h1, block_own hg (fun r e => (hr r e).2) h2⟩
set_option maxHeartbeats 4000000 in
theorem inOrder48 (hO : IsO w p own K qs) (hr : Rise K) (hu : ∀ y ∈ K, U64 y.s) : Calls Tryz.prog 143 #[.pointer (some ⟨p, 0, none⟩)] w fun e w' => e = .returned (.bool (ordB K (qs.map ot).reverse)) ∧ Kept [] w w' := by
 have HO := Hid.mk hO
 have hpl := hO.lt
 refine (callsIn_wide (n := 6)).1 ?_
 refine callsIn_of_wp_marks Tryz.func143 rfl trivial ?_ rfl
 simp only [Tryz.ntmps143, List.size_toArray, List.length_cons, List.length_nil, Nat.reduceAdd, Nat.reduceSub, Array.replicate_succ, Array.replicate_zero, List.push_toArray, List.append_toArray, List.nil_append, List.cons_append]
 clear hO
 obtain ⟨W2, e2, k2, hz2, hb20, hb21⟩ := box2 w (.cells #[.pointer (some ⟨p, 0, none⟩)] 64) (.cells #[.bool false] 4)
 obtain ⟨cs, hbx, hcs⟩ := (HO.out.kept0 k2).box
 have hCl : ((cs.drop 1).take 128).length = 128 := by rw [List.length_take, List.length_drop, hcs.len]; omega
 have hCg : ∀ j, j < 128 → ((cs.drop 1).take 128)[j]? = cs[1 + j]? := fun j hj => by rw [List.getElem?_take_of_lt hj, List.getElem?_drop]
 have hone : ∀ v ∈ (cs.drop 1).take 128, v.oneCell' = true := fun v hv => hcs.one v (List.mem_of_mem_drop (List.mem_of_mem_take hv))
 have hleft : ∀ j y, K[j]? = some y → ((cs.drop 1).take 128)[j * 2 + 1]? = some (Uv y.s) := fun j y hy => by
  have := get_lt hy
  have := HO.out.kn
  rw [hCg _ (by omega)]
  have := hcs.ks j y hy 1 (Uv y.s) rfl
  rwa [show 1 + j * 2 + 1 = 1 + (j * 2 + 1) by omega] at this
 have hld : (Instr.loadAt 165 (.pointer (some ⟨p, 1, none⟩))).run Tryz.prog W2 = .ok (.agg ((cs.drop 1).take 128).toArray) W2 := run_loadAt_mid W2 p 1 165 _ _ (fun j v hv => by
  have hj := get_lt hv
  rw [hCg j (by omega)] at hv
  exact IsO.cell hbx hv) Tryz.underlying165 rfl (by rw [hCl]; exact size60)
 generalize (cs.drop 1).take 128 = C at hCl hone hleft hld
 clear hCg hbx hcs
 have hal := alloc60 W2
 have hst : (Instr.storeAt 165 (.pointer (some ⟨W2.heap.size, 0, none⟩)) (.agg C.toArray)).run Tryz.prog (W2.alloc (.cells zeroT.toArray 165)) = .ok () (W2.alloc (.cells C.toArray 165)) := run_storeAt_new W2 165 zeroT.toArray C.toArray (by rw [List.size_toArray, hCl]; exact size60) (by rw [List.size_toArray, List.size_toArray, hCl]; rfl) (all_oneCell_toArray hone)
 generalize zeroT.toArray = Z at hal hst
 have HL : Hid (LeftAt (W2.alloc (.cells C.toArray 165)) W2.heap.size K) := ⟨C.toArray, heap_alloc_new W2 _, by rw [List.size_toArray, hCl], fun j y hy => by rw [List.getElem?_toArray]; exact hleft j y hy⟩
 clear hCl hone hleft
 generalize C.toArray = CA at hld hst HL
 rw [← e2] at hld hal hst
 have HE2 := Hid.mk e2
 clear e2
 gi_wp2_with (first | (refine wpListIn_load_run 165 (.tmp 10) rfl rfl _ rfl _ hld ?_) | (refine wpListIn_alloc_run 165 rfl rfl _ _ hal ?_) | (refine wpListIn_store_run 165 (.tmp 3) (.tmp 11) rfl rfl _ _ rfl rfl _ hst ?_))
 have HZ2 := Hid.mk hz2
 clear hz2
 obtain ⟨W3, e3, k3, hz3, hb3⟩ := box1 W2 (.cells CA 165)
 rw [HE2.out, e3]
 rw [e3] at HL
 have k03 := k2.trans k3 (by simp)
 have q30 := k3.keeps hb20 (by simp)
 have q31 := k3.keeps hb21 (by simp)
 have HZ3 := Hid.mk hz3
 clear hld hal hst e3 HE2 k2 hb20 hb21 hz3
 generalize W2.heap.size = pl at *
 change Code.wpIn Fence.wide 6 Tryz.prog _ _ { tmps := #[Value.pointer (some ⟨p, 0, none⟩), Value.pointer (some ⟨w.heap.size, 0, none⟩), Value.pointer (some ⟨w.heap.size + 1, 0, none⟩), Value.pointer (some ⟨pl, 0, none⟩), undef, undef, undef, undef, Value.pointer (some ⟨p, 0, none⟩), Value.pointer (some ⟨p, 0, none⟩), Value.pointer (some ⟨p, 1, none⟩), Value.agg CA, undef, undef, undef, undef, undef, undef, undef, undef, undef, undef, undef, undef, undef, undef, undef, undef, undef, undef, undef, undef, undef, undef, undef, undef, undef, undef, undef, undef, undef, undef, undef, undef, undef, undef, undef, undef, undef, undef, undef, undef, undef, undef, undef, undef], defers := [] } W3
 have hO3 := HO.out.kept0 k03
 have S0 : W3.drew.cell? ⟨w.heap.size, 0, none⟩ = some (.pointer (some ⟨p, 0, none⟩)) ∧ W3.drew.cell? ⟨p, 290, none⟩ = some (.int .i64 (qs.length : Int)) := ⟨cell_of_one q30, hO3.count⟩
 have f0 : (0 : Int) ≤ (qs.length : Int) := by omega
 have f1 : (qs.length : Int) ≤ 32 := by have := hO3.ln; omega
 have HS : Hid (∀ V, Kept [] W3.drew V → V.cell? ⟨w.heap.size, 0, none⟩ = some (.pointer (some ⟨p, 0, none⟩)) ∧ V.cell? ⟨p, 290, none⟩ = some (.int .i64 (qs.length : Int))) := fun V k => ⟨k.cell_eq S0.1, k.cell_eq S0.2⟩
 have H76 : Hid (Calls Tryz.prog 156 #[.slice (some ⟨p, 130, none⟩) qs.length 32] W3.drew fun e w' => e = .returned (.func (.func 159) #[] #[.pointer (some ⟨W3.heap.size, 0, none⟩)]) ∧ Kept [] W3.drew w' ∧ w'.heap[W3.heap.size]? = some (.cells #[.slice (some ⟨p, 130, none⟩) qs.length 32] 127 (0, 0))) := (callsIn_wide.1 (backward_in 5 (some ⟨p, 130, none⟩) qs.length 32 W3.drew)).mono fun e w' h => by
  obtain ⟨rfl, rfl⟩ := h
  exact ⟨rfl, (Kept.refl [] _).alloc _, heap_alloc_new W3.drew _⟩
 refine wpIn_wide.2 ?_
 go_region_held3 (fun V => V.cell? ⟨w.heap.size, 0, none⟩ = some (.pointer (some ⟨p, 0, none⟩)) ∧ V.cell? ⟨p, 290, none⟩ = some (.int .i64 (qs.length : Int))) (first | with_reducible exact S0 | with_reducible exact S1) (first | (go_at_call 156; refine H76.out.mono ?_; rintro e W4 ⟨rfl, k4, hb4⟩; have S1 := HS.out W4 k4))
 have k04 : Kept [] w W4 := (k03.drew).trans k4 (by simp)
 have q40 := k4.keeps (w := W3.drew) q30 (by simp)
 have q41 := k4.keeps (w := W3.drew) q31 (by simp)
 have HL4 : Hid (LeftAt W4 pl K) := (HL.out.kept (Kept.refl [] W3).drew (by simp)).kept k4 (by simp)
 have hO4 := HO.out.kept0 k04
 have hplp : pl ≠ p := by have := HZ2.out; omega
 have hplB : pl ≠ W3.heap.size := by have := HZ3.out; omega
 have hBp : W3.heap.size ≠ p := by have := HZ2.out; have := HZ3.out; omega
 have hpl1 : pl ≠ w.heap.size := by have := HZ2.out; omega
 have hpl2 : pl ≠ w.heap.size + 1 := by have := HZ2.out; omega
 have h2p : w.heap.size + 1 ≠ p := by omega
 have h2B : w.heap.size + 1 ≠ W3.heap.size := by have := HZ2.out; have := HZ3.out; omega
 have hplw : w.heap.size ≤ pl := by have := HZ2.out; omega
 have hp4 := hO4.lt
 have hBS4 := lt_of_block hb4
 have HO4 := Hid.mk hO4
 have hKn := hO4.kn
 have hQn := hO4.ln
 have HRI := Hid.mk hr
 clear S0 S1 HS H76 HL k03 k3 hb3 k4 q30 q31 hO3 hO4 hr
 gi_wp2_with fail
 refine wpIn_rangeFunc_ownH rfl (by omega) (gf := 159) (lb := #[.pointer (some ⟨W3.heap.size, 0, none⟩)]) rfl trivial (enters_of Tryz.func159 (by kernel_rfl) rfl)
  (seq_back 5 W3.heap.size p 130 32 qs (by omega) W4 hp4 hb4 (fun W' e => ?rdr)) kpB_t ?kb (Below.refl _ _) (fun _ => rfl)
  (fun (pre : List (Ix qs)) W => Rnd W4 pl (w.heap.size + 1) K qs pre W) (fun c (pre : List (Ix qs)) W => RndX W4 pl (w.heap.size + 1) K qs c pre W)
  rnd_own rndx_own ⟨K, rfl, rfl, HL4.out, Kept.refl _ _, hu⟩ (AxI p w.heap.size pl W3.heap.size CA qs) axI_own ?assign ?body ?done ?stop
 case rdr =>
  refine ReadsR.turn HO4.out.rowY fun g o x hg hx _ => ?_
  simp [Value.ownBlock] at hg
  subst hg
  rw [World.cell?_of_block (w := W4) e]
  exact hx
 case kb =>
  intro W l' o1 o2 hl hW _ _
  have hg := grownBy_putObj' W l' o2
  have hsz2 : (W.putObj l' o2).heap.size = W.heap.size := by simp [World.putObj]
  have key : ∀ b, b < W4.heap.size → (W.putObj l' o2).heap[b]? = W.heap[b]? := fun b hb => by
   by_cases h : b < W.heap.size
   ·exact hg.block b h (by simp; omega)
   ·rw [Array.getElem?_eq_none (by omega), Array.getElem?_eq_none (by omega)]
  exact ⟨key _ hBS4, key _ hp4⟩
 case assign =>
  rintro l' pre ⟨j, hj⟩ W K2 hI hK
  obtain ⟨y, hy⟩ : ∃ y, qs[j]'hj = y := ⟨_, rfl⟩
  have hsz : W4.heap.size ≤ W.heap.size := by obtain ⟨K', -, -, -, k, -⟩ := hI; exact k.size
  have HF : Hid (K2 (frI p w.heap.size pl W3.heap.size CA qs.length j y W.heap.size) (W.alloc (.cells #[Sv y.to, Sv y.q.x.fr, .int .u64 (y.q.x.ser : Int), .int .i64 y.q.x.kind, .slice y.q.ad y.q.x.args.length y.q.cap] 130))) := by
   refine hK _ _ (keeps_of ((Kept.refl [] W).alloc _) (by simp)) ⟨Below.heap_alloc _ _ _ (by omega), Below.heap_alloc _ _ _ (by omega)⟩ (rnd_own.alloc _ hI) ⟨W.heap.size, ?_, ?_⟩
   ·dsimp only; rw [hy]
   ·dsimp only; rw [hy]; exact heap_alloc_new W _
  dsimp only
  rw [hy]
  unfold frI yvl at HF
  unfold yvl
  clear hK hy hI
  gi_wp2
  exact HF.out
 case body =>
  rintro l' pre ⟨j, hj⟩ a' W hl' - ⟨K', hrun, hkeys, hL, kW, hub⟩ ⟨g, rfl, hg⟩ hlt
  obtain ⟨y, hy⟩ : ∃ y, qs[j]'hj = y := ⟨_, rfl⟩
  dsimp only at hg
  rw [hy] at hg
  dsimp only
  rw [hy]
  have hot : ltr qs ⟨j, hj⟩ = ot y := by unfold ltr; dsimp only; rw [hy]
  have HRUN : Hid (runB K ((pre ++ [(⟨j, hj⟩ : Ix qs)]).map (ltr qs)) = stepB K' (ot y)) := by
   show _ = _
   rw [List.map_append, List.map_cons, List.map_nil, runB_snoc, hrun, hot]
   rfl
  have t1 := cell_of_one (kW.keeps q40 (by simp; exact fun e => hpl1 e.symm))
  obtain ⟨s0, -, s2, -, -⟩ := cells5 hg
  have hOW : IsO W p own K qs := HO4.out.kept kW (by simp; exact fun e => hplp e.symm) (fun z hz b hb hm => by
   simp at hm
   subst hm
   obtain ⟨cs, h1, -⟩ := HL4.out
   exact ownsJ_ne (HO4.out.args z hz) h1 (by decide) hb)
  have H63 := Hid.mk (CallsIn.inRound l' ((callsIn_wide (n := 3)).2 (find63 hOW HRI.out y.to)))
  obtain ⟨hk1, hk2⟩ := keys_has y.to hkeys
  rw [← hk1, ← hk2] at H63
  clear hk1 hk2
  have hgl := lt_of_block hg
  have hgpl : g ≠ pl := by
   obtain ⟨cs, h1, -⟩ := hL
   exact box_ne hg h1 (by decide)
  have hW4 := kW.size
  have HG := Hid.mk hg
  have HLW := Hid.mk hL
  have HKW := Hid.mk kW
  have HKEY := Hid.mk hkeys
  -- what is left when a letter is out of order
  have HNO : Hid (∀ W', Kept [] W W' → stepB K' (ot y) = none → KeepsFrom W4.heap.size W (W'.setCell ⟨w.heap.size + 1, 0, none⟩ (.bool false)) ∧ RndX W4 pl (w.heap.size + 1) K qs .ret (pre ++ [(⟨j, hj⟩ : Ix qs)]) (W'.setCell ⟨w.heap.size + 1, 0, none⟩ (.bool false))) := fun W' k hs => by
   have q1 : W'.heap[w.heap.size + 1]? = some (.cells #[.bool false] 4 (0, 0)) := k.keeps (HKW.out.keeps q41 (by simp; exact fun e => hpl2 e.symm)) (by simp)
   have k1 := (Kept.refl [w.heap.size + 1] W').setCell (p := ⟨w.heap.size + 1, 0, none⟩) (.inl (by simp)) (.bool false)
   refine ⟨keeps_of ((k.mono (T := [w.heap.size + 1]) (by simp)).trans k1 (by simp)) (fun x hx => ?_), rfl, by rw [HRUN.out]; exact hs, one_setCell q1, ((HKW.out.mono (T := [pl, w.heap.size + 1]) (fun x hx => .inl (by simp at hx; simp [hx]))).trans k (by simp)).trans k1 (fun x hx => .inl (by simp at hx; simp [hx]))⟩
   simp at hx
   subst hx
   exact ⟨_, _, _, HKW.out.keeps q41 (by simp; exact fun e => hpl2 e.symm)⟩
  clear hrun hkeys hL kW hOW hg hot hy
  unfold frI yvl
  cases hh : hasK K' y.to with
  | false =>
   rw [hh] at H63
   have hsn : stepB K' (ot y) = none := by unfold stepB; rw [if_neg]; rintro ⟨h, -⟩; rw [show (ot y).to = y.to from rfl, hh] at h; cases h
   have HSN := Hid.mk hsn
   clear hsn hh
   gi_wp2_with fail
   refine ⟨trivial, H63.out.mono ?_⟩
   rintro e W5 ⟨rfl, k5⟩
   have r1 := cell_of_one (k5.keeps (HKW.out.keeps q41 (by simp; exact fun e => hpl2 e.symm)) (by simp))
   have r2 := free_of_one (k5.keeps (HKW.out.keeps q41 (by simp; exact fun e => hpl2 e.symm)) (by simp))
   gi_wp2_with fail
   refine wpIn_region_held (S := fun Wx => True) (by kernel_rfl) (by kernel_rfl) (by rintro ⟨_, _, h⟩; exact h) trivial (fun _ => ?_)
   refine wpAnyH_take (i := 0) (v := .bool false) rfl (by kernel_rfl) (by kernel_rfl) (by kernel_rfl) (fun _ _ _ h => h) (Or.inl ⟨by rfl, fun Wx hS => by go_simp⟩) trivial ?_
   go_simp
   refine wpAnyH_take (i := 1) (v := .bool true) rfl (by kernel_rfl) (by kernel_rfl) (by kernel_rfl) (fun _ _ _ h => h) (Or.inl ⟨by rfl, fun Wx hS => by go_simp⟩) trivial ?_
   go_simp
   refine wpAnyH_take (i := 2) (v := .bool true) rfl (by kernel_rfl) (by kernel_rfl) (by kernel_rfl) (fun _ _ _ h => h) (Or.inl ⟨by rfl, fun Wx hS => by go_simp⟩) trivial ?_
   go_simp
   refine wpAnyH_take (i := 3) (v := undef) rfl (by kernel_rfl) (by kernel_rfl) (by kernel_rfl) (fun _ _ _ h => h) (Or.inr ⟨by rfl, rfl⟩) trivial ?_
   go_simp
   refine wpAnyH_take (i := 4) (v := undef) rfl (by kernel_rfl) (by kernel_rfl) (by kernel_rfl) (fun _ _ _ h => h) (Or.inr ⟨by rfl, rfl⟩) trivial ?_
   go_simp
   refine wpAnyH_take (i := 5) (v := undef) rfl (by kernel_rfl) (by kernel_rfl) (by kernel_rfl) (fun _ _ _ h => h) (Or.inr ⟨by rfl, rfl⟩) trivial ?_
   go_simp
   refine wpAnyH_take (i := 6) (v := undef) rfl (by kernel_rfl) (by kernel_rfl) (by kernel_rfl) (fun _ _ _ h => h) (Or.inr ⟨by rfl, rfl⟩) trivial ?_
   go_simp
   refine wpAnyH_take (i := 7) (v := undef) rfl (by kernel_rfl) (by kernel_rfl) (by kernel_rfl) (fun _ _ _ h => h) (Or.inr ⟨by rfl, rfl⟩) trivial ?_
   go_simp
   refine wpAnyH_take (i := 8) (v := .bool true) rfl (by kernel_rfl) (by kernel_rfl) (by kernel_rfl) (fun _ _ _ h => h) (Or.inl ⟨by rfl, fun Wx hS => by go_simp⟩) trivial ?_
   go_simp
   refine wpAnyH_take (i := 9) (v := .bool true) rfl (by kernel_rfl) (by kernel_rfl) (by kernel_rfl) (fun _ _ _ h => h) (Or.inl ⟨by rfl, fun Wx hS => by go_simp⟩) trivial ?_
   go_simp
   refine wpAnyH_take (i := 10) (v := undef) rfl (by kernel_rfl) (by kernel_rfl) (by kernel_rfl) (fun _ _ _ h => h) (Or.inr ⟨by rfl, rfl⟩) trivial ?_
   go_simp
   refine wpAnyH_take (i := 11) (v := undef) rfl (by kernel_rfl) (by kernel_rfl) (by kernel_rfl) (fun _ _ _ h => h) (Or.inr ⟨by rfl, rfl⟩) trivial ?_
   go_simp
   refine wpAnyH_take (i := 12) (v := undef) rfl (by kernel_rfl) (by kernel_rfl) (by kernel_rfl) (fun _ _ _ h => h) (Or.inr ⟨by rfl, rfl⟩) trivial ?_
   go_simp
   refine wpAnyH_take (i := 13) (v := undef) rfl (by kernel_rfl) (by kernel_rfl) (by kernel_rfl) (fun _ _ _ h => h) (Or.inr ⟨by rfl, rfl⟩) trivial ?_
   go_simp
   refine wpAnyH_take (i := 14) (v := undef) rfl (by kernel_rfl) (by kernel_rfl) (by kernel_rfl) (fun _ _ _ h => h) (Or.inr ⟨by rfl, rfl⟩) trivial ?_
   go_simp
   refine wpAnyH_take (i := 15) (v := undef) rfl (by kernel_rfl) (by kernel_rfl) (by kernel_rfl) (fun _ _ _ h => h) (Or.inr ⟨by rfl, rfl⟩) trivial ?_
   go_simp
   refine wpAnyH_take (i := 16) (v := undef) rfl (by kernel_rfl) (by kernel_rfl) (by kernel_rfl) (fun _ _ _ h => h) (Or.inr ⟨by rfl, rfl⟩) trivial ?_
   go_simp
   refine wpAnyH_take (i := 17) (v := undef) rfl (by kernel_rfl) (by kernel_rfl) (by kernel_rfl) (fun _ _ _ h => h) (Or.inr ⟨by rfl, rfl⟩) trivial ?_
   go_simp
   refine wpAnyH_take (i := 18) (v := .bool true) rfl (by kernel_rfl) (by kernel_rfl) (by kernel_rfl) (fun _ _ _ h => h) (Or.inl ⟨by rfl, fun Wx hS => by go_simp⟩) trivial ?_
   go_simp
   refine wpAnyH_done (by kernel_rfl) ?_ _
   have HE := Hid.mk (HNO.out W5.drew k5.drew HSN.out)
   gi_wp2_with fail
   exact HE.out
  | true =>
   rw [hh] at H63
   obtain ⟨sv, g1, g2⟩ := has_at hh
   obtain ⟨l1, l2⟩ := HLW.out.cell g1
   dsimp only at l1
   have hat := get_lt g1
   have hsu : sv < 18446744073709551616 := hub _ (List.mem_of_getElem? g1)
   have hkl : K'.length = K.length := by have := congrArg List.length HKEY.out; simpa using this
   have a0 : (0 : Int) ≤ (pla K' y.to : Int) := by omega
   have a1 : (pla K' y.to : Int) < 64 := by omega
   have HHH := Hid.mk hh
   have HG2 := Hid.mk g2
   clear hh g1 g2 hkl hat
   by_cases hs0 : sv = 0
   ·have hsn : stepB K' (ot y) = none := by unfold stepB; rw [if_neg]; rintro ⟨-, h, -⟩; exact h (by rw [show (ot y).to = y.to from rfl, HG2.out]; exact hs0)
    have HSN := Hid.mk hsn
    have hz : ((sv : Int) == 0) = true := by simp [hs0]
    clear hsn hs0
    generalize pla K' y.to = P at *
    gi_wp2_with fail
    refine ⟨trivial, H63.out.mono ?_⟩
    rintro e W5 ⟨rfl, k5⟩
    have r1 := cell_of_one (k5.keeps (HKW.out.keeps q41 (by simp; exact fun e => hpl2 e.symm)) (by simp))
    have r2 := free_of_one (k5.keeps (HKW.out.keeps q41 (by simp; exact fun e => hpl2 e.symm)) (by simp))
    have l3 := k5.cell_eq l1
    have s3 := k5.cell_eq s2
    gi_wp2_with fail
    have T0 : W5.drew.cell? ⟨pl, P * 2 + 1, none⟩ = some (Uv sv) ∧ W5.drew.cell? ⟨g, 2, none⟩ = some (.int .u64 (y.q.x.ser : Int)) := ⟨l3, s3⟩
    refine wpIn_region_held (S := fun Wx => Wx.cell? ⟨pl, P * 2 + 1, none⟩ = some (Uv sv) ∧ Wx.cell? ⟨g, 2, none⟩ = some (.int .u64 (y.q.x.ser : Int))) (by kernel_rfl) (by kernel_rfl) (by rintro ⟨_, _, h⟩; exact h) T0 (fun _ => ?_)
    refine wpAnyH_take (i := 0) (v := .bool true) rfl (by kernel_rfl) (by kernel_rfl) (by kernel_rfl) (fun _ _ _ h => h) (Or.inl ⟨by rfl, fun Wx hS => by have hS' : Wx.cell? ⟨pl, P * 2 + 1, none⟩ = some (Uv sv) ∧ Wx.cell? ⟨g, 2, none⟩ = some (.int .u64 (y.q.x.ser : Int)) := hS; obtain ⟨hS1', hS2'⟩ := hS'; go_simp⟩) T0 ?_
    go_simp
    refine wpAnyH_take (i := 1) (v := .bool false) rfl (by kernel_rfl) (by kernel_rfl) (by kernel_rfl) (fun _ _ _ h => h) (Or.inl ⟨by rfl, fun Wx hS => by have hS' : Wx.cell? ⟨pl, P * 2 + 1, none⟩ = some (Uv sv) ∧ Wx.cell? ⟨g, 2, none⟩ = some (.int .u64 (y.q.x.ser : Int)) := hS; obtain ⟨hS1', hS2'⟩ := hS'; go_simp⟩) T0 ?_
    go_simp
    refine wpAnyH_take (i := 2) (v := .bool false) rfl (by kernel_rfl) (by kernel_rfl) (by kernel_rfl) (fun _ _ _ h => h) (Or.inl ⟨by rfl, fun Wx hS => by have hS' : Wx.cell? ⟨pl, P * 2 + 1, none⟩ = some (Uv sv) ∧ Wx.cell? ⟨g, 2, none⟩ = some (.int .u64 (y.q.x.ser : Int)) := hS; obtain ⟨hS1', hS2'⟩ := hS'; go_simp⟩) T0 ?_
    go_simp
    refine wpAnyH_take (i := 3) (v := .int .i64 (P : Int)) rfl (by kernel_rfl) (by kernel_rfl) (by kernel_rfl) (fun _ _ _ h => h) (Or.inl ⟨by rfl, fun Wx hS => by have hS' : Wx.cell? ⟨pl, P * 2 + 1, none⟩ = some (Uv sv) ∧ Wx.cell? ⟨g, 2, none⟩ = some (.int .u64 (y.q.x.ser : Int)) := hS; obtain ⟨hS1', hS2'⟩ := hS'; go_simp⟩) T0 ?_
    go_simp
    refine wpAnyH_take (i := 4) (v := Value.pointer (some ⟨pl, P * 2, none⟩)) rfl (by kernel_rfl) (by kernel_rfl) (by kernel_rfl) (fun _ _ _ h => h) (Or.inl ⟨by rfl, fun Wx hS => by have hS' : Wx.cell? ⟨pl, P * 2 + 1, none⟩ = some (Uv sv) ∧ Wx.cell? ⟨g, 2, none⟩ = some (.int .u64 (y.q.x.ser : Int)) := hS; obtain ⟨hS1', hS2'⟩ := hS'; go_simp⟩) T0 ?_
    go_simp
    refine wpAnyH_take (i := 5) (v := Value.pointer (some ⟨pl, P * 2 + 1, none⟩)) rfl (by kernel_rfl) (by kernel_rfl) (by kernel_rfl) (fun _ _ _ h => h) (Or.inl ⟨by rfl, fun Wx hS => by have hS' : Wx.cell? ⟨pl, P * 2 + 1, none⟩ = some (Uv sv) ∧ Wx.cell? ⟨g, 2, none⟩ = some (.int .u64 (y.q.x.ser : Int)) := hS; obtain ⟨hS1', hS2'⟩ := hS'; go_simp⟩) T0 ?_
    go_simp
    refine wpAnyH_take (i := 6) (v := Uv sv) rfl (by kernel_rfl) (by kernel_rfl) (by kernel_rfl) (fun _ _ _ h => h) (Or.inl ⟨by rfl, fun Wx hS => by have hS' : Wx.cell? ⟨pl, P * 2 + 1, none⟩ = some (Uv sv) ∧ Wx.cell? ⟨g, 2, none⟩ = some (.int .u64 (y.q.x.ser : Int)) := hS; obtain ⟨hS1', hS2'⟩ := hS'; go_simp⟩) T0 ?_
    go_simp
    refine wpAnyH_take (i := 7) (v := .bool true) rfl (by kernel_rfl) (by kernel_rfl) (by kernel_rfl) (fun _ _ _ h => h) (Or.inl ⟨by rfl, fun Wx hS => by have hS' : Wx.cell? ⟨pl, P * 2 + 1, none⟩ = some (Uv sv) ∧ Wx.cell? ⟨g, 2, none⟩ = some (.int .u64 (y.q.x.ser : Int)) := hS; obtain ⟨hS1', hS2'⟩ := hS'; go_simp⟩) T0 ?_
    go_simp
    refine wpAnyH_take (i := 8) (v := .bool true) rfl (by kernel_rfl) (by kernel_rfl) (by kernel_rfl) (fun _ _ _ h => h) (Or.inl ⟨by rfl, fun Wx hS => by have hS' : Wx.cell? ⟨pl, P * 2 + 1, none⟩ = some (Uv sv) ∧ Wx.cell? ⟨g, 2, none⟩ = some (.int .u64 (y.q.x.ser : Int)) := hS; obtain ⟨hS1', hS2'⟩ := hS'; go_simp⟩) T0 ?_
    go_simp
    refine wpAnyH_take (i := 9) (v := .bool true) rfl (by kernel_rfl) (by kernel_rfl) (by kernel_rfl) (fun _ _ _ h => h) (Or.inl ⟨by rfl, fun Wx hS => by have hS' : Wx.cell? ⟨pl, P * 2 + 1, none⟩ = some (Uv sv) ∧ Wx.cell? ⟨g, 2, none⟩ = some (.int .u64 (y.q.x.ser : Int)) := hS; obtain ⟨hS1', hS2'⟩ := hS'; go_simp⟩) T0 ?_
    go_simp
    refine wpAnyH_take (i := 10) (v := undef) rfl (by kernel_rfl) (by kernel_rfl) (by kernel_rfl) (fun _ _ _ h => h) (Or.inr ⟨by rfl, rfl⟩) T0 ?_
    go_simp
    refine wpAnyH_take (i := 11) (v := undef) rfl (by kernel_rfl) (by kernel_rfl) (by kernel_rfl) (fun _ _ _ h => h) (Or.inr ⟨by rfl, rfl⟩) T0 ?_
    go_simp
    refine wpAnyH_take (i := 12) (v := undef) rfl (by kernel_rfl) (by kernel_rfl) (by kernel_rfl) (fun _ _ _ h => h) (Or.inr ⟨by rfl, rfl⟩) T0 ?_
    go_simp
    refine wpAnyH_take (i := 13) (v := undef) rfl (by kernel_rfl) (by kernel_rfl) (by kernel_rfl) (fun _ _ _ h => h) (Or.inr ⟨by rfl, rfl⟩) T0 ?_
    go_simp
    refine wpAnyH_take (i := 14) (v := undef) rfl (by kernel_rfl) (by kernel_rfl) (by kernel_rfl) (fun _ _ _ h => h) (Or.inr ⟨by rfl, rfl⟩) T0 ?_
    go_simp
    refine wpAnyH_take (i := 15) (v := undef) rfl (by kernel_rfl) (by kernel_rfl) (by kernel_rfl) (fun _ _ _ h => h) (Or.inr ⟨by rfl, rfl⟩) T0 ?_
    go_simp
    refine wpAnyH_take (i := 16) (v := undef) rfl (by kernel_rfl) (by kernel_rfl) (by kernel_rfl) (fun _ _ _ h => h) (Or.inr ⟨by rfl, rfl⟩) T0 ?_
    go_simp
    refine wpAnyH_take (i := 17) (v := undef) rfl (by kernel_rfl) (by kernel_rfl) (by kernel_rfl) (fun _ _ _ h => h) (Or.inr ⟨by rfl, rfl⟩) T0 ?_
    go_simp
    refine wpAnyH_take (i := 18) (v := .bool true) rfl (by kernel_rfl) (by kernel_rfl) (by kernel_rfl) (fun _ _ _ h => h) (Or.inl ⟨by rfl, fun Wx hS => by have hS' : Wx.cell? ⟨pl, P * 2 + 1, none⟩ = some (Uv sv) ∧ Wx.cell? ⟨g, 2, none⟩ = some (.int .u64 (y.q.x.ser : Int)) := hS; obtain ⟨hS1', hS2'⟩ := hS'; go_simp⟩) T0 ?_
    go_simp
    refine wpAnyH_done (by kernel_rfl) ?_ _
    have HE := Hid.mk (HNO.out W5.drew k5.drew HSN.out)
    gi_wp2_with fail
    exact HE.out
   ·have hz : ((sv : Int) == 0) = false := by simp; omega
    by_cases hsr : y.q.x.ser = sv
    ·have hsn : stepB K' (ot y) = some (setK K' y.to (sv - 1)) := by
      unfold stepB
      rw [show (ot y).to = y.to from rfl, show (ot y).x = y.q.x from rfl, HG2.out, if_pos ⟨HHH.out, hs0, hsr⟩]
     have hsl : 1 ≤ sv := by omega
     obtain ⟨s1, hs1⟩ : ∃ s1, sv - 1 = s1 := ⟨_, rfl⟩
     rw [hs1] at hsn
     have hsI : (sv : Int) - 1 = (s1 : Int) := by omega
     have hwr : IntKind.u64.wrap (s1 : Int) = (s1 : Int) := by rw [IntKind.wrap_u64]; omega
     have HUB : Hid (∀ z ∈ setK K' y.to s1, U64 z.s) := fun z hz => by
      rcases setK_mem hz with rfl | hz
      ·show s1 < _; omega
      ·exact hub z hz
     have HYES : Hid (∀ W', Kept [] W W' → KeepsFrom W4.heap.size W (W'.setCell ⟨pl, pla K' y.to * 2 + 1, none⟩ (Uv s1)) ∧ KpB W3.heap.size p W (W'.setCell ⟨pl, pla K' y.to * 2 + 1, none⟩ (Uv s1)) ∧ Rnd W4 pl (w.heap.size + 1) K qs (pre ++ [(⟨j, hj⟩ : Ix qs)]) (W'.setCell ⟨pl, pla K' y.to * 2 + 1, none⟩ (Uv s1))) := fun W' k => by
      have k1 := (Kept.refl [pl] W').setCell (p := ⟨pl, pla K' y.to * 2 + 1, none⟩) (.inl (by simp)) (Uv s1)
      have kk := (k.mono (T := [pl]) (by simp)).trans k1 (by simp)
      refine ⟨keeps_of kk (fun x hx => ?_), ⟨kk.block _ (by omega) (by simp; exact fun e => hplB e.symm), kk.block _ (by omega) (by simp; exact fun e => hplp e.symm)⟩, _, HRUN.out.trans hsn, ?_, (HLW.out.kept k (by simp)).set HHH.out ?_ s1, HKW.out.trans kk (fun x hx => .inl hx), HUB.out⟩
      ·simp at hx
       subst hx
       obtain ⟨cs, h1, -⟩ := HLW.out
       exact ⟨_, _, _, h1⟩
      ·rw [setK_keys _ HHH.out]; exact HKEY.out
      ·have := congrArg List.length HKEY.out; simp at this; omega
     have hne : (y.q.x.ser == sv) = true := by simpa using hsr
     rw [hsr] at s2
     clear hsn hs0 hs1 hne hsr
     generalize pla K' y.to = P at *
     gi_wp2_with fail
     refine ⟨trivial, H63.out.mono ?_⟩
     rintro e W5 ⟨rfl, k5⟩
     have l3 := k5.cell_eq l1
     have l4 : W5.frozen? ⟨pl, P * 2 + 1, none⟩ = false := by
      obtain ⟨cs, h1, -⟩ := HLW.out.kept k5 (by simp)
      simp [World.frozen?, h1]
     have s3 := k5.cell_eq s2
     gi_wp2_with fail
     have T0 : W5.drew.cell? ⟨pl, P * 2 + 1, none⟩ = some (Uv sv) ∧ W5.drew.cell? ⟨g, 2, none⟩ = some (.int .u64 (sv : Int)) := ⟨l3, s3⟩
     refine wpIn_region_held (S := fun Wx => Wx.cell? ⟨pl, P * 2 + 1, none⟩ = some (Uv sv) ∧ Wx.cell? ⟨g, 2, none⟩ = some (.int .u64 (sv : Int))) (by kernel_rfl) (by kernel_rfl) (by rintro ⟨_, _, h⟩; exact h) T0 (fun _ => ?_)
     refine wpAnyH_take (i := 0) (v := .bool true) rfl (by kernel_rfl) (by kernel_rfl) (by kernel_rfl) (fun _ _ _ h => h) (Or.inl ⟨by rfl, fun Wx hS => by have hS' : Wx.cell? ⟨pl, P * 2 + 1, none⟩ = some (Uv sv) ∧ Wx.cell? ⟨g, 2, none⟩ = some (.int .u64 (sv : Int)) := hS; obtain ⟨hS1', hS2'⟩ := hS'; go_simp⟩) T0 ?_
     go_simp
     refine wpAnyH_take (i := 1) (v := .bool false) rfl (by kernel_rfl) (by kernel_rfl) (by kernel_rfl) (fun _ _ _ h => h) (Or.inl ⟨by rfl, fun Wx hS => by have hS' : Wx.cell? ⟨pl, P * 2 + 1, none⟩ = some (Uv sv) ∧ Wx.cell? ⟨g, 2, none⟩ = some (.int .u64 (sv : Int)) := hS; obtain ⟨hS1', hS2'⟩ := hS'; go_simp⟩) T0 ?_
     go_simp
     refine wpAnyH_take (i := 2) (v := .bool false) rfl (by kernel_rfl) (by kernel_rfl) (by kernel_rfl) (fun _ _ _ h => h) (Or.inl ⟨by rfl, fun Wx hS => by have hS' : Wx.cell? ⟨pl, P * 2 + 1, none⟩ = some (Uv sv) ∧ Wx.cell? ⟨g, 2, none⟩ = some (.int .u64 (sv : Int)) := hS; obtain ⟨hS1', hS2'⟩ := hS'; go_simp⟩) T0 ?_
     go_simp
     refine wpAnyH_take (i := 3) (v := .int .i64 (P : Int)) rfl (by kernel_rfl) (by kernel_rfl) (by kernel_rfl) (fun _ _ _ h => h) (Or.inl ⟨by rfl, fun Wx hS => by have hS' : Wx.cell? ⟨pl, P * 2 + 1, none⟩ = some (Uv sv) ∧ Wx.cell? ⟨g, 2, none⟩ = some (.int .u64 (sv : Int)) := hS; obtain ⟨hS1', hS2'⟩ := hS'; go_simp⟩) T0 ?_
     go_simp
     refine wpAnyH_take (i := 4) (v := Value.pointer (some ⟨pl, P * 2, none⟩)) rfl (by kernel_rfl) (by kernel_rfl) (by kernel_rfl) (fun _ _ _ h => h) (Or.inl ⟨by rfl, fun Wx hS => by have hS' : Wx.cell? ⟨pl, P * 2 + 1, none⟩ = some (Uv sv) ∧ Wx.cell? ⟨g, 2, none⟩ = some (.int .u64 (sv : Int)) := hS; obtain ⟨hS1', hS2'⟩ := hS'; go_simp⟩) T0 ?_
     go_simp
     refine wpAnyH_take (i := 5) (v := Value.pointer (some ⟨pl, P * 2 + 1, none⟩)) rfl (by kernel_rfl) (by kernel_rfl) (by kernel_rfl) (fun _ _ _ h => h) (Or.inl ⟨by rfl, fun Wx hS => by have hS' : Wx.cell? ⟨pl, P * 2 + 1, none⟩ = some (Uv sv) ∧ Wx.cell? ⟨g, 2, none⟩ = some (.int .u64 (sv : Int)) := hS; obtain ⟨hS1', hS2'⟩ := hS'; go_simp⟩) T0 ?_
     go_simp
     refine wpAnyH_take (i := 6) (v := Uv sv) rfl (by kernel_rfl) (by kernel_rfl) (by kernel_rfl) (fun _ _ _ h => h) (Or.inl ⟨by rfl, fun Wx hS => by have hS' : Wx.cell? ⟨pl, P * 2 + 1, none⟩ = some (Uv sv) ∧ Wx.cell? ⟨g, 2, none⟩ = some (.int .u64 (sv : Int)) := hS; obtain ⟨hS1', hS2'⟩ := hS'; go_simp⟩) T0 ?_
     go_simp
     refine wpAnyH_take (i := 7) (v := .bool false) rfl (by kernel_rfl) (by kernel_rfl) (by kernel_rfl) (fun _ _ _ h => h) (Or.inl ⟨by rfl, fun Wx hS => by have hS' : Wx.cell? ⟨pl, P * 2 + 1, none⟩ = some (Uv sv) ∧ Wx.cell? ⟨g, 2, none⟩ = some (.int .u64 (sv : Int)) := hS; obtain ⟨hS1', hS2'⟩ := hS'; go_simp⟩) T0 ?_
     go_simp
     refine wpAnyH_take (i := 8) (v := .bool false) rfl (by kernel_rfl) (by kernel_rfl) (by kernel_rfl) (fun _ _ _ h => h) (Or.inl ⟨by rfl, fun Wx hS => by have hS' : Wx.cell? ⟨pl, P * 2 + 1, none⟩ = some (Uv sv) ∧ Wx.cell? ⟨g, 2, none⟩ = some (.int .u64 (sv : Int)) := hS; obtain ⟨hS1', hS2'⟩ := hS'; go_simp⟩) T0 ?_
     go_simp
     refine wpAnyH_take (i := 9) (v := .bool false) rfl (by kernel_rfl) (by kernel_rfl) (by kernel_rfl) (fun _ _ _ h => h) (Or.inl ⟨by rfl, fun Wx hS => by have hS' : Wx.cell? ⟨pl, P * 2 + 1, none⟩ = some (Uv sv) ∧ Wx.cell? ⟨g, 2, none⟩ = some (.int .u64 (sv : Int)) := hS; obtain ⟨hS1', hS2'⟩ := hS'; go_simp⟩) T0 ?_
     go_simp
     refine wpAnyH_take (i := 10) (v := Value.pointer (some ⟨g, 1, none⟩)) rfl (by kernel_rfl) (by kernel_rfl) (by kernel_rfl) (fun _ _ _ h => h) (Or.inl ⟨by rfl, fun Wx hS => by have hS' : Wx.cell? ⟨pl, P * 2 + 1, none⟩ = some (Uv sv) ∧ Wx.cell? ⟨g, 2, none⟩ = some (.int .u64 (sv : Int)) := hS; obtain ⟨hS1', hS2'⟩ := hS'; go_simp⟩) T0 ?_
     go_simp
     refine wpAnyH_take (i := 11) (v := Value.pointer (some ⟨g, 2, none⟩)) rfl (by kernel_rfl) (by kernel_rfl) (by kernel_rfl) (fun _ _ _ h => h) (Or.inl ⟨by rfl, fun Wx hS => by have hS' : Wx.cell? ⟨pl, P * 2 + 1, none⟩ = some (Uv sv) ∧ Wx.cell? ⟨g, 2, none⟩ = some (.int .u64 (sv : Int)) := hS; obtain ⟨hS1', hS2'⟩ := hS'; go_simp⟩) T0 ?_
     go_simp
     refine wpAnyH_take (i := 12) (v := .int .u64 (sv : Int)) rfl (by kernel_rfl) (by kernel_rfl) (by kernel_rfl) (fun _ _ _ h => h) (Or.inl ⟨by rfl, fun Wx hS => by have hS' : Wx.cell? ⟨pl, P * 2 + 1, none⟩ = some (Uv sv) ∧ Wx.cell? ⟨g, 2, none⟩ = some (.int .u64 (sv : Int)) := hS; obtain ⟨hS1', hS2'⟩ := hS'; go_simp⟩) T0 ?_
     go_simp
     refine wpAnyH_take (i := 13) (v := .int .i64 (P : Int)) rfl (by kernel_rfl) (by kernel_rfl) (by kernel_rfl) (fun _ _ _ h => h) (Or.inl ⟨by rfl, fun Wx hS => by have hS' : Wx.cell? ⟨pl, P * 2 + 1, none⟩ = some (Uv sv) ∧ Wx.cell? ⟨g, 2, none⟩ = some (.int .u64 (sv : Int)) := hS; obtain ⟨hS1', hS2'⟩ := hS'; go_simp⟩) T0 ?_
     go_simp
     refine wpAnyH_take (i := 14) (v := Value.pointer (some ⟨pl, P * 2, none⟩)) rfl (by kernel_rfl) (by kernel_rfl) (by kernel_rfl) (fun _ _ _ h => h) (Or.inl ⟨by rfl, fun Wx hS => by have hS' : Wx.cell? ⟨pl, P * 2 + 1, none⟩ = some (Uv sv) ∧ Wx.cell? ⟨g, 2, none⟩ = some (.int .u64 (sv : Int)) := hS; obtain ⟨hS1', hS2'⟩ := hS'; go_simp⟩) T0 ?_
     go_simp
     refine wpAnyH_take (i := 15) (v := Value.pointer (some ⟨pl, P * 2 + 1, none⟩)) rfl (by kernel_rfl) (by kernel_rfl) (by kernel_rfl) (fun _ _ _ h => h) (Or.inl ⟨by rfl, fun Wx hS => by have hS' : Wx.cell? ⟨pl, P * 2 + 1, none⟩ = some (Uv sv) ∧ Wx.cell? ⟨g, 2, none⟩ = some (.int .u64 (sv : Int)) := hS; obtain ⟨hS1', hS2'⟩ := hS'; go_simp⟩) T0 ?_
     go_simp
     refine wpAnyH_take (i := 16) (v := Uv sv) rfl (by kernel_rfl) (by kernel_rfl) (by kernel_rfl) (fun _ _ _ h => h) (Or.inl ⟨by rfl, fun Wx hS => by have hS' : Wx.cell? ⟨pl, P * 2 + 1, none⟩ = some (Uv sv) ∧ Wx.cell? ⟨g, 2, none⟩ = some (.int .u64 (sv : Int)) := hS; obtain ⟨hS1', hS2'⟩ := hS'; go_simp⟩) T0 ?_
     go_simp
     refine wpAnyH_take (i := 17) (v := .bool false) rfl (by kernel_rfl) (by kernel_rfl) (by kernel_rfl) (fun _ _ _ h => h) (Or.inl ⟨by rfl, fun Wx hS => by have hS' : Wx.cell? ⟨pl, P * 2 + 1, none⟩ = some (Uv sv) ∧ Wx.cell? ⟨g, 2, none⟩ = some (.int .u64 (sv : Int)) := hS; obtain ⟨hS1', hS2'⟩ := hS'; go_simp⟩) T0 ?_
     go_simp
     refine wpAnyH_take (i := 18) (v := .bool false) rfl (by kernel_rfl) (by kernel_rfl) (by kernel_rfl) (fun _ _ _ h => h) (Or.inl ⟨by rfl, fun Wx hS => by have hS' : Wx.cell? ⟨pl, P * 2 + 1, none⟩ = some (Uv sv) ∧ Wx.cell? ⟨g, 2, none⟩ = some (.int .u64 (sv : Int)) := hS; obtain ⟨hS1', hS2'⟩ := hS'; go_simp⟩) T0 ?_
     go_simp
     refine wpAnyH_done (by kernel_rfl) ?_ _
     have HE := Hid.mk (HYES.out W5.drew k5.drew)
     gi_wp2_with fail
     exact HE.out
    ·have hsn : stepB K' (ot y) = none := by unfold stepB; rw [if_neg]; rintro ⟨-, -, h⟩; rw [show (ot y).to = y.to from rfl, show (ot y).x = y.q.x from rfl, HG2.out] at h; exact hsr h
     have HSN := Hid.mk hsn
     have hne : ((y.q.x.ser : Int) != (sv : Int)) = true := by simp; omega
     clear hsn hs0 hsr
     generalize pla K' y.to = P at *
     gi_wp2_with fail
     refine ⟨trivial, H63.out.mono ?_⟩
     rintro e W5 ⟨rfl, k5⟩
     have r1 := cell_of_one (k5.keeps (HKW.out.keeps q41 (by simp; exact fun e => hpl2 e.symm)) (by simp))
     have r2 := free_of_one (k5.keeps (HKW.out.keeps q41 (by simp; exact fun e => hpl2 e.symm)) (by simp))
     have l3 := k5.cell_eq l1
     have s3 := k5.cell_eq s2
     gi_wp2_with fail
     have T0 : W5.drew.cell? ⟨pl, P * 2 + 1, none⟩ = some (Uv sv) ∧ W5.drew.cell? ⟨g, 2, none⟩ = some (.int .u64 (y.q.x.ser : Int)) := ⟨l3, s3⟩
     refine wpIn_region_held (S := fun Wx => Wx.cell? ⟨pl, P * 2 + 1, none⟩ = some (Uv sv) ∧ Wx.cell? ⟨g, 2, none⟩ = some (.int .u64 (y.q.x.ser : Int))) (by kernel_rfl) (by kernel_rfl) (by rintro ⟨_, _, h⟩; exact h) T0 (fun _ => ?_)
     refine wpAnyH_take (i := 0) (v := .bool true) rfl (by kernel_rfl) (by kernel_rfl) (by kernel_rfl) (fun _ _ _ h => h) (Or.inl ⟨by rfl, fun Wx hS => by have hS' : Wx.cell? ⟨pl, P * 2 + 1, none⟩ = some (Uv sv) ∧ Wx.cell? ⟨g, 2, none⟩ = some (.int .u64 (y.q.x.ser : Int)) := hS; obtain ⟨hS1', hS2'⟩ := hS'; go_simp⟩) T0 ?_
     go_simp
     refine wpAnyH_take (i := 1) (v := .bool false) rfl (by kernel_rfl) (by kernel_rfl) (by kernel_rfl) (fun _ _ _ h => h) (Or.inl ⟨by rfl, fun Wx hS => by have hS' : Wx.cell? ⟨pl, P * 2 + 1, none⟩ = some (Uv sv) ∧ Wx.cell? ⟨g, 2, none⟩ = some (.int .u64 (y.q.x.ser : Int)) := hS; obtain ⟨hS1', hS2'⟩ := hS'; go_simp⟩) T0 ?_
     go_simp
     refine wpAnyH_take (i := 2) (v := .bool false) rfl (by kernel_rfl) (by kernel_rfl) (by kernel_rfl) (fun _ _ _ h => h) (Or.inl ⟨by rfl, fun Wx hS => by have hS' : Wx.cell? ⟨pl, P * 2 + 1, none⟩ = some (Uv sv) ∧ Wx.cell? ⟨g, 2, none⟩ = some (.int .u64 (y.q.x.ser : Int)) := hS; obtain ⟨hS1', hS2'⟩ := hS'; go_simp⟩) T0 ?_
     go_simp
     refine wpAnyH_take (i := 3) (v := .int .i64 (P : Int)) rfl (by kernel_rfl) (by kernel_rfl) (by kernel_rfl) (fun _ _ _ h => h) (Or.inl ⟨by rfl, fun Wx hS => by have hS' : Wx.cell? ⟨pl, P * 2 + 1, none⟩ = some (Uv sv) ∧ Wx.cell? ⟨g, 2, none⟩ = some (.int .u64 (y.q.x.ser : Int)) := hS; obtain ⟨hS1', hS2'⟩ := hS'; go_simp⟩) T0 ?_
     go_simp
     refine wpAnyH_take (i := 4) (v := Value.pointer (some ⟨pl, P * 2, none⟩)) rfl (by kernel_rfl) (by kernel_rfl) (by kernel_rfl) (fun _ _ _ h => h) (Or.inl ⟨by rfl, fun Wx hS => by have hS' : Wx.cell? ⟨pl, P * 2 + 1, none⟩ = some (Uv sv) ∧ Wx.cell? ⟨g, 2, none⟩ = some (.int .u64 (y.q.x.ser : Int)) := hS; obtain ⟨hS1', hS2'⟩ := hS'; go_simp⟩) T0 ?_
     go_simp
     refine wpAnyH_take (i := 5) (v := Value.pointer (some ⟨pl, P * 2 + 1, none⟩)) rfl (by kernel_rfl) (by kernel_rfl) (by kernel_rfl) (fun _ _ _ h => h) (Or.inl ⟨by rfl, fun Wx hS => by have hS' : Wx.cell? ⟨pl, P * 2 + 1, none⟩ = some (Uv sv) ∧ Wx.cell? ⟨g, 2, none⟩ = some (.int .u64 (y.q.x.ser : Int)) := hS; obtain ⟨hS1', hS2'⟩ := hS'; go_simp⟩) T0 ?_
     go_simp
     refine wpAnyH_take (i := 6) (v := Uv sv) rfl (by kernel_rfl) (by kernel_rfl) (by kernel_rfl) (fun _ _ _ h => h) (Or.inl ⟨by rfl, fun Wx hS => by have hS' : Wx.cell? ⟨pl, P * 2 + 1, none⟩ = some (Uv sv) ∧ Wx.cell? ⟨g, 2, none⟩ = some (.int .u64 (y.q.x.ser : Int)) := hS; obtain ⟨hS1', hS2'⟩ := hS'; go_simp⟩) T0 ?_
     go_simp
     refine wpAnyH_take (i := 7) (v := .bool false) rfl (by kernel_rfl) (by kernel_rfl) (by kernel_rfl) (fun _ _ _ h => h) (Or.inl ⟨by rfl, fun Wx hS => by have hS' : Wx.cell? ⟨pl, P * 2 + 1, none⟩ = some (Uv sv) ∧ Wx.cell? ⟨g, 2, none⟩ = some (.int .u64 (y.q.x.ser : Int)) := hS; obtain ⟨hS1', hS2'⟩ := hS'; go_simp⟩) T0 ?_
     go_simp
     refine wpAnyH_take (i := 8) (v := .bool false) rfl (by kernel_rfl) (by kernel_rfl) (by kernel_rfl) (fun _ _ _ h => h) (Or.inl ⟨by rfl, fun Wx hS => by have hS' : Wx.cell? ⟨pl, P * 2 + 1, none⟩ = some (Uv sv) ∧ Wx.cell? ⟨g, 2, none⟩ = some (.int .u64 (y.q.x.ser : Int)) := hS; obtain ⟨hS1', hS2'⟩ := hS'; go_simp⟩) T0 ?_
     go_simp
     refine wpAnyH_take (i := 9) (v := .bool false) rfl (by kernel_rfl) (by kernel_rfl) (by kernel_rfl) (fun _ _ _ h => h) (Or.inl ⟨by rfl, fun Wx hS => by have hS' : Wx.cell? ⟨pl, P * 2 + 1, none⟩ = some (Uv sv) ∧ Wx.cell? ⟨g, 2, none⟩ = some (.int .u64 (y.q.x.ser : Int)) := hS; obtain ⟨hS1', hS2'⟩ := hS'; go_simp⟩) T0 ?_
     go_simp
     refine wpAnyH_take (i := 10) (v := Value.pointer (some ⟨g, 1, none⟩)) rfl (by kernel_rfl) (by kernel_rfl) (by kernel_rfl) (fun _ _ _ h => h) (Or.inl ⟨by rfl, fun Wx hS => by have hS' : Wx.cell? ⟨pl, P * 2 + 1, none⟩ = some (Uv sv) ∧ Wx.cell? ⟨g, 2, none⟩ = some (.int .u64 (y.q.x.ser : Int)) := hS; obtain ⟨hS1', hS2'⟩ := hS'; go_simp⟩) T0 ?_
     go_simp
     refine wpAnyH_take (i := 11) (v := Value.pointer (some ⟨g, 2, none⟩)) rfl (by kernel_rfl) (by kernel_rfl) (by kernel_rfl) (fun _ _ _ h => h) (Or.inl ⟨by rfl, fun Wx hS => by have hS' : Wx.cell? ⟨pl, P * 2 + 1, none⟩ = some (Uv sv) ∧ Wx.cell? ⟨g, 2, none⟩ = some (.int .u64 (y.q.x.ser : Int)) := hS; obtain ⟨hS1', hS2'⟩ := hS'; go_simp⟩) T0 ?_
     go_simp
     refine wpAnyH_take (i := 12) (v := .int .u64 (y.q.x.ser : Int)) rfl (by kernel_rfl) (by kernel_rfl) (by kernel_rfl) (fun _ _ _ h => h) (Or.inl ⟨by rfl, fun Wx hS => by have hS' : Wx.cell? ⟨pl, P * 2 + 1, none⟩ = some (Uv sv) ∧ Wx.cell? ⟨g, 2, none⟩ = some (.int .u64 (y.q.x.ser : Int)) := hS; obtain ⟨hS1', hS2'⟩ := hS'; go_simp⟩) T0 ?_
     go_simp
     refine wpAnyH_take (i := 13) (v := .int .i64 (P : Int)) rfl (by kernel_rfl) (by kernel_rfl) (by kernel_rfl) (fun _ _ _ h => h) (Or.inl ⟨by rfl, fun Wx hS => by have hS' : Wx.cell? ⟨pl, P * 2 + 1, none⟩ = some (Uv sv) ∧ Wx.cell? ⟨g, 2, none⟩ = some (.int .u64 (y.q.x.ser : Int)) := hS; obtain ⟨hS1', hS2'⟩ := hS'; go_simp⟩) T0 ?_
     go_simp
     refine wpAnyH_take (i := 14) (v := Value.pointer (some ⟨pl, P * 2, none⟩)) rfl (by kernel_rfl) (by kernel_rfl) (by kernel_rfl) (fun _ _ _ h => h) (Or.inl ⟨by rfl, fun Wx hS => by have hS' : Wx.cell? ⟨pl, P * 2 + 1, none⟩ = some (Uv sv) ∧ Wx.cell? ⟨g, 2, none⟩ = some (.int .u64 (y.q.x.ser : Int)) := hS; obtain ⟨hS1', hS2'⟩ := hS'; go_simp⟩) T0 ?_
     go_simp
     refine wpAnyH_take (i := 15) (v := Value.pointer (some ⟨pl, P * 2 + 1, none⟩)) rfl (by kernel_rfl) (by kernel_rfl) (by kernel_rfl) (fun _ _ _ h => h) (Or.inl ⟨by rfl, fun Wx hS => by have hS' : Wx.cell? ⟨pl, P * 2 + 1, none⟩ = some (Uv sv) ∧ Wx.cell? ⟨g, 2, none⟩ = some (.int .u64 (y.q.x.ser : Int)) := hS; obtain ⟨hS1', hS2'⟩ := hS'; go_simp⟩) T0 ?_
     go_simp
     refine wpAnyH_take (i := 16) (v := Uv sv) rfl (by kernel_rfl) (by kernel_rfl) (by kernel_rfl) (fun _ _ _ h => h) (Or.inl ⟨by rfl, fun Wx hS => by have hS' : Wx.cell? ⟨pl, P * 2 + 1, none⟩ = some (Uv sv) ∧ Wx.cell? ⟨g, 2, none⟩ = some (.int .u64 (y.q.x.ser : Int)) := hS; obtain ⟨hS1', hS2'⟩ := hS'; go_simp⟩) T0 ?_
     go_simp
     refine wpAnyH_take (i := 17) (v := .bool true) rfl (by kernel_rfl) (by kernel_rfl) (by kernel_rfl) (fun _ _ _ h => h) (Or.inl ⟨by rfl, fun Wx hS => by have hS' : Wx.cell? ⟨pl, P * 2 + 1, none⟩ = some (Uv sv) ∧ Wx.cell? ⟨g, 2, none⟩ = some (.int .u64 (y.q.x.ser : Int)) := hS; obtain ⟨hS1', hS2'⟩ := hS'; go_simp⟩) T0 ?_
     go_simp
     refine wpAnyH_take (i := 18) (v := .bool true) rfl (by kernel_rfl) (by kernel_rfl) (by kernel_rfl) (fun _ _ _ h => h) (Or.inl ⟨by rfl, fun Wx hS => by have hS' : Wx.cell? ⟨pl, P * 2 + 1, none⟩ = some (Uv sv) ∧ Wx.cell? ⟨g, 2, none⟩ = some (.int .u64 (y.q.x.ser : Int)) := hS; obtain ⟨hS1', hS2'⟩ := hS'; go_simp⟩) T0 ?_
     go_simp
     refine wpAnyH_done (by kernel_rfl) ?_ _
     have HE := Hid.mk (HNO.out W5.drew k5.drew HSN.out)
     gi_wp2_with fail
     exact HE.out
 case done =>
  rintro D ys W hDz hys ⟨K', hrun, -, -, kW, -⟩ hK
  rw [hys] at hrun
  have hord : ordB K (qs.map ot).reverse = true := by rw [ordB_run, hrun]; rfl
  have q1 : W.heap[w.heap.size + 1]? = some (.cells #[.bool false] 4 (0, 0)) := kW.keeps q41 (by simp; exact fun e => hpl2 e.symm)
  have c1 := cell_of_one q1
  have c2 := free_of_one q1
  have k1 := (Kept.refl [w.heap.size + 1] W).setCell (p := ⟨w.heap.size + 1, 0, none⟩) (.inl (by simp)) (.bool true)
  have q2 : (W.setCell ⟨w.heap.size + 1, 0, none⟩ (.bool true)).heap[w.heap.size + 1]? = some (.cells #[.bool true] 4 (0, 0)) := one_setCell q1
  have hK' : (W.setCell ⟨w.heap.size + 1, 0, none⟩ (.bool true)).heap[D]? = some (.deferred (some [])) := (KeepsOthers.setCell W ⟨w.heap.size + 1, 0, none⟩ (.bool true)).same D _ hK rfl
  have hgp := grownBy_putObj' (W.setCell ⟨w.heap.size + 1, 0, none⟩ (.bool true)) D (.deferred none)
  have kp : Kept [D] (W.setCell ⟨w.heap.size + 1, 0, none⟩ (.bool true)) ((W.setCell ⟨w.heap.size + 1, 0, none⟩ (.bool true)).putObj D (.deferred none)) := (Kept.refl _ _).grown hgp (fun x hx => .inl (by simp at hx; simp [hx]))
  have hs4 := k04.size
  have Hfin : Hid (Kept [] w ((W.setCell ⟨w.heap.size + 1, 0, none⟩ (.bool true)).putObj D (.deferred none))) := ((k04.trans kW (fun x hx => .inr (by simp at hx; omega))).trans k1 (fun x hx => .inr (by simp at hx; omega))).trans kp (fun x hx => .inr (by simp at hx; omega))
  have hc5 := cell_kept (cell_of_one q2) hgp (fun r e => by cases e; exact ⟨_, hK', rfl⟩)
  clear hgp kp q1 q2 k1
  gi_wp2
  refine ⟨by simp, .inl ⟨_, _, rfl, run_takeDeferred hK', ?_⟩⟩
  refine ⟨.bool true, ?_, by rw [hord], Hfin.out⟩
  simp [results, Tryz.f143, go_sem, hc5]
 case stop =>
  rintro D c pre W hDz ⟨k, hk⟩ ⟨rfl, hrun, q1, kW⟩ hK
  have hord : ordB K (qs.map ot).reverse = false := by
   rw [ordB_run]
   have h1 : (qs.map ot).reverse = ((qs.map ot).reverse).take k ++ ((qs.map ot).reverse).drop k := (List.take_append_drop k _).symm
   rw [hk] at hrun
   rw [h1, runB_pre _ _ _ hrun]
   rfl
  have hgp := grownBy_putObj' W D (.deferred none)
  have kp : Kept [D] W (W.putObj D (.deferred none)) := (Kept.refl _ _).grown hgp (fun x hx => .inl (by simp at hx; simp [hx]))
  have hs4 := k04.size
  have Hfin : Hid (Kept [] w (W.putObj D (.deferred none))) := (k04.trans kW (fun x hx => .inr (by simp at hx; omega))).trans kp (fun x hx => .inr (by simp at hx; omega))
  have hc5 := cell_kept (cell_of_one q1) hgp (fun r e => by cases e; exact ⟨_, hK, rfl⟩)
  clear hgp kp q1
  gi_wp2
  refine ⟨by simp, .inl ⟨_, _, rfl, run_takeDeferred hK, ?_⟩⟩
  refine ⟨.bool false, ?_, by rw [hord], Hfin.out⟩
  simp [results, Tryz.f143, go_sem, hc5]
end
end Go.Proofs.YtngnenbidpojeaaGreatDoor
