import Derived.Test.YtngnenbidpojeaaGreatDoorV17
/-
  New, Base, Version and the events' row of a journal.
-/
namespace Go.Proofs.YtngnenbidpojeaaGreatDoor
set_option maxRecDepth 100000
open Go.RowKit
set_option linter.unusedVariables false
theorem wpList_load_run {w : World} {ops : Array Oper} {rest : List Oper} {o : Oper} {a : Act} {Q : Exit → Act → World → Prop} (t : TypeId) (x : Operand)
    (hop : o.op = .load t x) (hg : o.guard = none) (vx : Value) (hx : a.eval x = vx) (v : Value) (hrun : (Instr.loadAt t vx).run Tryz.prog w = .ok v w)
    (h : wpList Tryz.prog ops Q rest (a.put o.dst v) w) : wpList Tryz.prog ops Q (o :: rest) a w := by
  refine wpList_plain hg fun K hK' => ?_
  unfold Oper.wp execOp
  simp only [hop, hx, Sem.run_bind, Sem.run_pure, Result.andThen_ok, hrun]
  exact hK' _ _ h
theorem wpList_alloc_run {w : World} {ops : Array Oper} {rest : List Oper} {o : Oper} {a : Act} {Q : Exit → Act → World → Prop} (t : TypeId)
    (hop : o.op = .alloc t) (hg : o.guard = none) (v : Value) (w' : World) (hrun : (Instr.alloc t true (.tuple #[])).run Tryz.prog w = .ok v w')
    (h : wpList Tryz.prog ops Q rest (a.put o.dst v) w') : wpList Tryz.prog ops Q (o :: rest) a w := by
  refine wpList_plain hg fun K hK' => ?_
  unfold Oper.wp execOp
  simp only [hop, Sem.run_bind, Sem.run_pure, Result.andThen_ok, hrun]
  exact hK' _ _ h
theorem wpList_store_run {w : World} {ops : Array Oper} {rest : List Oper} {o : Oper} {a : Act} {Q : Exit → Act → World → Prop} (t : TypeId) (x y : Operand)
    (hop : o.op = .store t x y) (hg : o.guard = none) (vx vy : Value) (hx : a.eval x = vx) (hy : a.eval y = vy) (w' : World) (hrun : (Instr.storeAt t vx vy).run Tryz.prog w = .ok () w')
    (h : wpList Tryz.prog ops Q rest (a.put o.dst undef) w') : wpList Tryz.prog ops Q (o :: rest) a w := by
  refine wpList_plain hg fun K hK' => ?_
  unfold Oper.wp execOp
  simp only [hop, hx, hy, Sem.run_bind, Sem.run_pure, Result.andThen_ok, hrun]
  exact hK' _ _ h
/-- Eight noughts. -/
abbrev z8 : List Int := [0, 0, 0, 0, 0, 0, 0, 0]
theorem alloc29 (W : World) : (Instr.alloc 84 true (.tuple #[])).run Tryz.prog W = .ok (.pointer (some ⟨W.heap.size, 0, none⟩)) (W.alloc (.cells (BI z8).toArray 84)) := by kernel_rfl
theorem size29 : (Tryz.prog.info? 84).map (·.size) = some 8 := by kernel_rfl
/-- An array of eight at block g. -/
structure IsA (w : World) (g : Nat) (A : List Int) : Prop where
  box : w.heap[g]? = some (.cells (BI A).toArray 84 (0, 0))
  a8 : A.length = 8
section
variable {w w' : World} {g : Nat} {A : List Int}
theorem IsA.kept0 (h : IsA w g A) (k : Kept [] w w') : IsA w' g A := ⟨k.keeps h.box (by simp), h.a8⟩
theorem IsA.new (w : World) : IsA (w.alloc (.cells (BI z8).toArray 84)) w.heap.size z8 := ⟨heap_alloc_new w _, rfl⟩
theorem IsA.cell (h : IsA w g A) {i : Nat} {x : Int} (hi : A[i]? = some x) : w.cell? ⟨g, i, none⟩ = some (Iv x) := cell_list h.box (BI_get hi)
theorem IsA.free (h : IsA w g A) (i : Nat) : w.frozen? ⟨g, i, none⟩ = false := by simp [World.frozen?, h.box]
theorem IsA.set (h : IsA w g A) {i : Nat} (hi : i < 8) (x : Int) : IsA (w.setCell ⟨g, i, none⟩ (Iv x)) g (A.set i x) := ⟨by rw [set_list h.box, BI_set], by rw [List.length_set]; exact h.a8⟩
theorem IsA.load (h : IsA w g A) : (Instr.loadAt 84 (.pointer (some ⟨g, 0, none⟩))).run Tryz.prog w = .ok (.agg (BI A).toArray) w :=
  run_loadAt_mid w g 0 84 _ _ (fun j v hv => by rw [Nat.zero_add]; exact cell_list h.box hv) Tryz.underlying84 rfl (by rw [BI_length, h.a8]; exact size29)
theorem IsA.store (h : IsA w g A) {B : List Int} (hB : B.length = 8) : ∃ W, (Instr.storeAt 84 (.pointer (some ⟨g, 0, none⟩)) (.agg (BI B).toArray)).run Tryz.prog w = .ok () W ∧ IsA W g B ∧ Kept [g] w W ∧ W.heap.size = w.heap.size := by
  refine ⟨_, run_storeAt_mid w g 0 84 (BI B).toArray (fun j hj => ?_) (by rw [List.size_toArray, BI_length, hB]; exact size29) (all_oneCell_toArray (BI_one B)), ⟨?_, hB⟩, Kept.setCells (.inl (by simp)) _ (Kept.refl [g] w) 0, size_setCells _ _ _⟩
  · rw [List.size_toArray, BI_length, hB] at hj
    refine ⟨?_, h.free _⟩
    rw [h.cell (List.getElem?_eq_getElem (i := 0 + j) (by rw [h.a8]; omega))]
    rfl
  · rw [setCells_list _ h.box]
    have := sets_parts [] (BI A) (BI B) [] 0 rfl (by rw [BI_length, BI_length, h.a8, hB])
    simp only [List.nil_append, List.append_nil] at this
    rw [this]
end
theorem result29 {fn : Func} {u : Tmp} (h : fn.results = #[.cell u 84]) (tmps : Array Value) (w : World) (g : Nat) (A : List Int) (hp : tmps.getD u undef = .pointer (some ⟨g, 0, none⟩)) (hA : IsA w g A) : (results fn tmps).run Tryz.prog w = .ok (.agg (BI A).toArray) w :=
  results_cell_row h tmps w g 84 _ (0, 0) _ hp hA.box Tryz.underlying84 rfl (by rw [List.size_toArray, BI_length, hA.a8]; exact size29)
section
variable {w : World} {p : Nat} {j : Jn}
theorem new11_J : Calls Tryz.prog 57 #[] w fun e w' => ∃ p, e = .returned (.pointer (some ⟨p, 0, none⟩)) ∧ IsJ w' p newJ ∧ Kept [] w w' ∧ w.heap.size ≤ p := by
  go_enter Tryz.func57, Tryz.ntmps57
  go_wp2_with fail
  go_ret
  exact ⟨_, rfl, IsJ.new w, (Kept.refl [] w).alloc _, Nat.le_refl _⟩
set_option maxHeartbeats 1000000 in
theorem base25 {A : List Int} {E : List Ep} {n : Int} {v : Nat} (h : IsP w p A E n v) : Calls Tryz.prog 53 #[.pointer (some ⟨p, 0, none⟩)] w fun e w' => e = .returned (.agg (BI A).toArray) ∧ Kept [] w w' := by
  have hal := alloc29 w
  have hA0 := IsA.new w
  have k0 := (Kept.refl [] w).alloc (.cells (BI z8).toArray 84)
  generalize w.alloc (.cells (BI z8).toArray 84) = W0 at *
  have h0 := h.kept0 k0
  have hld : (Instr.loadAt 84 (.pointer (some ⟨p, 0, none⟩))).run Tryz.prog W0 = .ok (.agg (BI A).toArray) W0 := run_loadAt_mid W0 p 0 84 _ _ h0.rangeA Tryz.underlying84 rfl (by rw [BI_length, h.a8]; exact size29)
  obtain ⟨W1, hst, hA1, k1, -⟩ := hA0.store h.a8
  have HR : Hid (IsA W1 w.heap.size A ∧ Kept [] w W1) := ⟨hA1, k0.trans k1 (by simp)⟩
  clear h h0 hA0 hA1 k0 k1
  go_enter Tryz.func53, Tryz.ntmps53
  go_wp2_with (first | (refine wpList_alloc_run 84 rfl rfl _ _ hal ?_) | (refine wpList_load_run 84 (.tmp 8) rfl rfl _ rfl _ hld ?_) | (refine wpList_store_run 84 (.tmp 2) (.tmp 9) rfl rfl _ _ rfl rfl _ hst ?_))
  exact bodyPost_ret (result29 (u := 2) rfl _ _ w.heap.size A rfl HR.out.1) rfl ⟨rfl, HR.out.2⟩
theorem doA_take {b : List Int} {l : List Ev} {k : Nat} {y : Ev} (hy : l[k]? = some y) : doA b (l.take (k + 1)) = (doA b (l.take k)).set y.r y.v := by
  rw [List.take_add_one, hy, doA_append]
  rfl
theorem slice35h (p n : Nat) (h2 : n ≤ 16) (W : World) : (Instr.sliceAt 175 (.pointer (some ⟨p, 8, none⟩)) none (some (.int .i64 (n : Int))) none).run Tryz.prog W = .ok (.slice (some ⟨p, 8, none⟩) n 16) W := by
  have ht : Tryz.prog.underlying 175 = some (.array (Tryz.prog.arrayLen 175) (Tryz.prog.elem 175)) := by kernel_rfl
  have h64 : Tryz.prog.arrayLen 175 = 16 := by kernel_rfl
  have he : Tryz.prog.elem 175 = 92 := by kernel_rfl
  have hs : (sizeOf 92).run Tryz.prog W = .ok 2 W := by kernel_rfl
  rw [run_sliceAt_array_h W 175 ⟨p, 8, none⟩ ht .i64 (n : Int) (by omega) (by rw [h64]; omega), he, hs, Result.andThen_ok, slicedAt, h64, add_at]
  rfl
set_option maxHeartbeats 1000000 in
theorem behind31 (h : IsJ w p j) : Calls Tryz.prog 76 #[.pointer (some ⟨p, 0, none⟩)] w fun e w' => e = .returned (.slice (some ⟨p, 8, none⟩) j.ev.length 16) ∧ Kept [] w w' := by
  have S0 : w.drew.cell? ⟨p, 40, none⟩ = some (Iv (j.ev.length : Int)) := h.isP.count
  have hsl : ∀ W : World, (Instr.sliceAt 175 (.pointer (some ⟨p, 8, none⟩)) none (some (.int .i64 (j.ev.length : Int))) none).run Tryz.prog W = _ := slice35h p j.ev.length h.len
  have h0 : (0 : Int) ≤ (j.ev.length : Int) := by omega
  have h1 : (j.ev.length : Int) ≤ 16 := by have := h.len; omega
  clear h
  go_enter Tryz.func76, Tryz.ntmps76
  go_wp2_with fail
  go_region
  go_wp2_with fail
  go_ret
  exact ⟨rfl, (Kept.refl [] w).drew⟩
theorem rt40 : RowT 90 92 2 16 (.agg #[.int .i64 0, .int .i64 0]) := ⟨Tryz.underlying90, by kernel_rfl, rfl, by omega, by omega⟩
theorem rt30 : RowT 27 93 2 16 (.agg #[.int .i64 0, .int .i64 0]) := ⟨Tryz.underlying27, by kernel_rfl, rfl, by omega, by omega⟩
theorem rowE_form {w : World} {v : Value} {l : List Ep} (h : ReadsR 2 w v (CE l)) : ∃ a c, v = .slice a l.length c ∧ l.length ≤ c ∧ c ≤ 9223372036854775807 := by
  have := ReadsR.form h
  rwa [CE_length] at this
theorem rowE_at {w : World} {a : Option Addr} {n c : Nat} {l : List Ep} (h : ReadsR 2 w (.slice a n c) (CE l)) {j : Nat} {y : Ep} (hy : l[j]? = some y) : ∃ b o, a = some ⟨b, o, none⟩ ∧ w.cell? ⟨b, o + j * 2, none⟩ = some (Iv y.1) ∧ w.cell? ⟨b, o + j * 2 + 1, none⟩ = some (Iv y.2) := by
  obtain ⟨b, o, c', e, hc⟩ := ReadsR.at h j (cellsE y) (by simp [CE, hy])
  injection e with e _ _
  have h0 := hc 0 _ rfl
  have h1 := hc 1 _ rfl
  rw [Nat.add_zero] at h0
  exact ⟨b, o, e, h0, h1⟩
set_option maxHeartbeats 2000000 in
theorem state18 (h : IsJ w p j) (hr : RegJ j) : Calls Tryz.prog 23 #[.pointer (some ⟨p, 0, none⟩)] w fun e w' => e = .returned (.agg (BI (stJ j)).toArray) ∧ Kept [] w w' := by
  have hal := alloc29 w
  have hA0 := IsA.new w
  have k0 := (Kept.refl [] w).alloc (.cells (BI z8).toArray 84)
  have hs0 : (w.alloc (.cells (BI z8).toArray 84)).heap.size = w.heap.size + 1 := by simp
  generalize w.alloc (.cells (BI z8).toArray 84) = W0 at *
  have HB := Hid.mk (base25 (h.kept0 k0).isP)
  have HJ := Hid.mk h
  have hb8 := h.isP.a8
  clear h
  go_enter Tryz.func23, Tryz.ntmps23
  go_wp2_with (first | (refine wpList_alloc_run 84 rfl rfl _ _ hal ?_))
  refine HB.out.mono ?_
  rintro e w1 ⟨rfl, k1⟩
  have hal1 := alloc29 w1
  have hA1 := IsA.new w1
  have kA := (Kept.refl [] w1).alloc (.cells (BI z8).toArray 84)
  have hs1 : (w1.alloc (.cells (BI z8).toArray 84)).heap.size = w1.heap.size + 1 := by simp
  generalize w1.alloc (.cells (BI z8).toArray 84) = W1 at *
  obtain ⟨W2, hst, hA2, kS, hs2⟩ := hA1.store hb8
  have h01 : w.heap.size < w1.heap.size := by have := k1.size; omega
  have k02 : Kept [] w W2 := (k0.trans (k1.trans kA (by simp)) (by simp)).trans kS (by simp; omega)
  have hA02 : IsA W2 w.heap.size z8 := ⟨kS.keeps (kA.keeps (k1.keeps hA0.box (by simp)) (by simp)) (by simp; omega), rfl⟩
  have HC := Hid.mk (behind31 (HJ.out.kept0 k02))
  clear hal hA0 k0 hs0 HB k1 hA1 kA hs1 kS
  go_wp2_with (first | (refine wpList_alloc_run 84 rfl rfl _ _ hal1 ?_) | (refine wpList_store_run 84 (.tmp 3) (.tmp 7) rfl rfl _ _ rfl rfl _ hst ?_))
  refine HC.out.mono ?_
  rintro e w3 ⟨rfl, k3⟩
  have k03 := k02.trans k3 (by simp)
  have hA03 := hA02.kept0 k3
  have hA3 := hA2.kept0 k3
  clear HC k02 hA02 hA2 hst hal1 hs2
  have hw1 : ∀ x : World, True := fun _ => trivial
  generalize w1.heap.size = g at *
  generalize hn : j.ev.length = n at *
  have HN := Hid.mk hn
  have hn16 : n ≤ 16 := by have := HJ.out.len; omega
  clear hn hw1
  go_wp2_with fail
  go_loopw [11] (fun i wr => ∃ k : Nat, i = .int .i64 (k : Int) ∧ k ≤ n ∧ Hid (IsA wr g (doA j.base (j.ev.take k)) ∧ IsA wr w.heap.size z8 ∧ Kept [] w wr)) (fun i _ => n - (intOf i).toNat)
  case atStart => exact ⟨0, rfl, by omega, Hid.mk ⟨hA3, hA03, k03⟩⟩
  case round =>
    obtain ⟨k, rfl, hk, H⟩ := hrel
    by_cases hlt : k < n
    · obtain ⟨y, hy⟩ : ∃ y, j.ev[k]? = some y := ⟨_, List.getElem?_eq_getElem (by have := HN.out; omega)⟩
      obtain ⟨d0, d1⟩ := (HJ.out.kept0 H.out.2.2).at hy
      have hjI : (k : Int) < (n : Int) := by omega
      have hj16 : (n : Int) ≤ 16 := by omega
      have hy7 := hr y (List.mem_of_getElem? hy)
      have k1 := (Kept.refl [] wr).alloc (.cells #[.int .i64 (y.r : Int), .int .i64 y.v] 92)
      have hA1 := H.out.1.kept0 k1
      obtain ⟨c0, hc0⟩ : ∃ c, (doA j.base (j.ev.take k))[y.r]? = some c := ⟨_, List.getElem?_eq_getElem (by rw [H.out.1.a8]; omega)⟩
      have x0 := H.out.1.cell hc0
      have x1 := hA1.cell hc0
      have f0 := H.out.1.free y.r
      have f1 := hA1.free y.r
      have r0 : (0 : Int) ≤ (y.r : Int) := by omega
      have r1 : (y.r : Int) < 8 := by omega
      have hgr : w.heap.size ≠ g := by omega
      have HR : Hid (IsA ((wr.alloc (.cells #[.int .i64 (y.r : Int), .int .i64 y.v] 92)).setCell ⟨g, y.r, none⟩ (.int .i64 y.v)) g (doA j.base (j.ev.take (k + 1))) ∧ IsA ((wr.alloc (.cells #[.int .i64 (y.r : Int), .int .i64 y.v] 92)).setCell ⟨g, y.r, none⟩ (.int .i64 y.v)) w.heap.size z8 ∧ Kept [] w ((wr.alloc (.cells #[.int .i64 (y.r : Int), .int .i64 y.v] 92)).setCell ⟨g, y.r, none⟩ (.int .i64 y.v))) := by
        have ks := (Kept.refl [g] (wr.alloc (.cells #[.int .i64 (y.r : Int), .int .i64 y.v] 92))).setCell (p := ⟨g, y.r, none⟩) (.inl (by simp)) (.int .i64 y.v)
        rw [doA_take hy]
        exact ⟨hA1.set (by omega) y.v, ⟨ks.keeps (H.out.2.1.kept0 k1).box (by simpa using hgr), rfl⟩, (H.out.2.2.trans k1 (by simp)).trans ks (by simp; omega)⟩
      clear hA3 hA03 k03 k3 k1 hA1 hc0 hy H
      go_wp2_with fail
      go_roundw
      case rel => exact ⟨k + 1, by go_num, by omega, HR⟩
      case measure => simp [intOf]; omega
    · obtain rfl : k = n := by omega
      have hA := H.out.1
      rw [List.take_of_length_le (by rw [HN.out]; exact Nat.le_refl _)] at hA
      have hld := hA.load
      obtain ⟨W4, hst, hA4, kS, -⟩ := H.out.2.1.store (B := doA j.base j.ev) hA.a8
      have HR : Hid (IsA W4 w.heap.size (doA j.base j.ev) ∧ Kept [] w W4) := ⟨hA4, H.out.2.2.trans kS (by simp)⟩
      clear hA3 hA03 k03 k3 H hA kS hA4
      go_wp2_with (first | (refine wpList_load_run 84 (.tmp 3) rfl rfl _ rfl _ hld ?_) | (refine wpList_store_run 84 (.tmp 2) (.tmp 21) rfl rfl _ _ rfl rfl _ hst ?_))
      exact bodyPost_ret (result29 (u := 2) rfl _ _ w.heap.size _ rfl HR.out.1) rfl ⟨rfl, HR.out.2⟩
end
end Go.Proofs.YtngnenbidpojeaaGreatDoor
/-
  push of a journal.
-/
namespace Go.Proofs.YtngnenbidpojeaaGreatDoor
set_option maxRecDepth 100000
open Go.RowKit
set_option linter.unusedVariables false
theorem cells2 {w : World} {b : Nat} {v0 v1 : Value} {t : TypeId} (h : w.heap[b]? = some (.cells #[v0, v1] t (0, 0))) : w.cell? ⟨b, 0, none⟩ = some v0 ∧ w.cell? ⟨b, 1, none⟩ = some v1 := cell_of_two h
theorem slice35w (p : Nat) (W : World) : (Instr.sliceAt 175 (.pointer (some ⟨p, 8, none⟩)) none none none).run Tryz.prog W = .ok (.slice (some ⟨p, 8, none⟩) 16 16) W := by
  kernel_rfl
theorem slice35l (p : Nat) (W : World) : (Instr.sliceAt 175 (.pointer (some ⟨p, 8, none⟩)) (some (.int .i64 1)) none none).run Tryz.prog W = .ok (.slice (some ⟨p, 10, none⟩) 15 15) W := by
  have ht : Tryz.prog.underlying 175 = some (.array (Tryz.prog.arrayLen 175) (Tryz.prog.elem 175)) := by kernel_rfl
  have h64 : Tryz.prog.arrayLen 175 = 16 := by kernel_rfl
  have he : Tryz.prog.elem 175 = 92 := by kernel_rfl
  have hs : (sizeOf 92).run Tryz.prog W = .ok 2 W := by kernel_rfl
  rw [run_sliceAt_array_l W 175 ⟨p, 8, none⟩ ht .i64 1 (by omega) (by rw [h64]; omega), he, hs, Result.andThen_ok, slicedAt, h64, add_at]
  rfl
section
variable {w : World} {p : Nat} {j : Jn}
/-- The last steps of push: an event is laid at the place n, and they are one more. -/
theorem lay_last {W : World} {A : List Int} {E : List Ep} {n v b : Nat} (h : IsP W p A E (n : Int) v) (hn : n < 16) (e : Ep) (hb : W.heap[b]? = some (.cells #[Iv e.1, Iv e.2] 92 (0, 0))) (hbp : b ≠ p) :
    (∃ d0 d1, W.cell? ⟨p, 8 + n * 2, none⟩ = some d0 ∧ W.cell? ⟨p, 8 + n * 2 + 1, none⟩ = some d1 ∧ W.frozen? ⟨p, 8 + n * 2, none⟩ = false ∧ W.frozen? ⟨p, 8 + n * 2 + 1, none⟩ = false) ∧
    (W.cell? ⟨p, 40, none⟩ = some (Iv (n : Int)) ∧ W.cell? ⟨b, 0, none⟩ = some (Iv e.1) ∧ W.cell? ⟨b, 1, none⟩ = some (Iv e.2)) ∧
    ∃ W1, (W.setCell ⟨p, 8 + n * 2, none⟩ (Iv e.1)).setCell ⟨p, 8 + n * 2 + 1, none⟩ (Iv e.2) = W1 ∧ (W1.cell? ⟨p, 40, none⟩ = some (Iv (n : Int)) ∧ W1.cell? ⟨b, 0, none⟩ = some (Iv e.1) ∧ W1.cell? ⟨b, 1, none⟩ = some (Iv e.2)) ∧ W1.frozen? ⟨p, 40, none⟩ = false ∧
      IsP (W1.setCell ⟨p, 40, none⟩ (Iv ((n : Int) + 1))) p A (E.set n e) ((n : Int) + 1) v ∧ Kept [p] W (W1.setCell ⟨p, 40, none⟩ (Iv ((n : Int) + 1))) := by
  obtain ⟨q, hq⟩ : ∃ q, E[n]? = some q := ⟨_, List.getElem?_eq_getElem (by rw [h.e16]; exact hn)⟩
  have hc := h.cellE hq
  have h1 := h.setE hn e
  have k1 : Kept [p] W ((W.setCell ⟨p, 8 + n * 2, none⟩ (Iv e.1)).setCell ⟨p, 8 + n * 2 + 1, none⟩ (Iv e.2)) := ((Kept.refl [p] W).setCell (p := ⟨p, 8 + n * 2, none⟩) (.inl (by simp)) _).setCell (p := ⟨p, 8 + n * 2 + 1, none⟩) (.inl (by simp)) _
  have hb1 := k1.keeps hb (by simpa using hbp)
  exact ⟨⟨_, _, hc.1, hc.2, h.free _, h.free _⟩, ⟨h.count, cells2 hb⟩, _, rfl, ⟨h1.count, cells2 hb1⟩, h1.free _, h1.setn _, k1.setCell (p := ⟨p, 40, none⟩) (.inl (by simp)) _⟩
set_option maxHeartbeats 2000000 in
theorem push28_few (h : IsJ w p j) (hl : j.ev.length < 16) (e : Ev) : Calls Tryz.prog 90 #[.pointer (some ⟨p, 0, none⟩), Vv (ofE e)] w fun x w' => x = .returned (.tuple #[]) ∧ IsJ w' p (pushJ j e) ∧ Kept [p] w w' := by
  rw [pushJ_few hl]
  show Calls Tryz.prog 90 #[.pointer (some ⟨p, 0, none⟩), .agg #[Iv (e.r : Int), Iv e.v]] w _
  obtain ⟨W0, e0, k0, hz0, hb0⟩ := box1 w (.cells #[Iv (e.r : Int), Iv e.v] 92)
  have hpl := h.lt
  have h0 := (h.kept0 k0).isP
  have hc0 := h0.count
  obtain ⟨⟨d0, d1, c0, c1, f0, f1⟩, S0, W1, e1, S1, fz, h2, k2⟩ := lay_last h0 hl (ofE e) hb0 (by omega)
  have c0' : W0.drew.cell? ⟨p, 8 + j.ev.length * 2, none⟩ = some d0 := c0
  have c1' : W0.drew.cell? ⟨p, 8 + j.ev.length * 2 + 1, none⟩ = some d1 := c1
  have f0' : W0.drew.frozen? ⟨p, 8 + j.ev.length * 2, none⟩ = false := f0
  have f1' : W0.drew.frozen? ⟨p, 8 + j.ev.length * 2 + 1, none⟩ = false := f1
  have HQ : Hid (∀ V, V = (W0.setCell ⟨p, 8 + j.ev.length * 2, none⟩ (Iv (e.r : Int))).setCell ⟨p, 8 + j.ev.length * 2 + 1, none⟩ (Iv e.v) → V.drew.cell? ⟨p, 40, none⟩ = some (Iv (j.ev.length : Int)) ∧ V.drew.cell? ⟨w.heap.size, 0, none⟩ = some (Iv (e.r : Int)) ∧ V.drew.cell? ⟨w.heap.size, 1, none⟩ = some (Iv e.v)) := fun V hV => by
    have hV' : V = W1 := hV.trans e1
    subst hV'
    exact S1
  have HE1 := Hid.mk e1
  have cn := S1.1
  have HR : Hid (IsJ (W1.setCell ⟨p, 40, none⟩ (Iv ((j.ev.length : Int) + 1))).drew p ⟨j.base, j.ev ++ [e], j.ver⟩ ∧ Kept [p] w (W1.setCell ⟨p, 40, none⟩ (Iv ((j.ev.length : Int) + 1))).drew) := by
    refine ⟨IsJ.kept0 ⟨?_, by simp; omega⟩ (Kept.refl [] _).drew, ((k0.mono (by simp)).trans k2 (by simp)).drew⟩
    rw [padE_more hl] at h2
    rw [List.length_append, List.length_singleton]
    exact h2
  have q0 : ((j.ev.length : Int) == 16) = false := by simpa using (by omega : ¬ (j.ev.length : Int) = 16)
  have q1 : (j.ev.length : Int) < 16 := by omega
  have q2 : (0 : Int) ≤ (j.ev.length : Int) := by omega
  have q3 : ¬ (j.ev.length : Int) = 16 := by omega
  have S0' : W0.drew.cell? ⟨p, 40, none⟩ = some (Iv (j.ev.length : Int)) ∧ W0.drew.cell? ⟨w.heap.size, 0, none⟩ = some (Iv (e.r : Int)) ∧ W0.drew.cell? ⟨w.heap.size, 1, none⟩ = some (Iv e.v) := S0
  dsimp only [ofE] at *
  clear h h0 k0 hz0 hb0 hl h2 k2 e1 S1 S0
  generalize j.ev.length = n at *
  go_enter Tryz.func90, Tryz.ntmps90
  go_wp2_with fail
  go_region_held3 (fun V => V.cell? ⟨p, 40, none⟩ = some (Iv (n : Int)) ∧ V.cell? ⟨w.heap.size, 0, none⟩ = some (Iv (e.r : Int)) ∧ V.cell? ⟨w.heap.size, 1, none⟩ = some (Iv e.v)) (first | with_reducible exact S0' | exact HQ.out _ rfl) (fail)
  rw [HE1.out]
  clear HQ c0 c1 f0 f1 c0' c1' f0' f1' S0' HE1 e0 hc0
  go_wp2_with fail
  go_end0
  exact ⟨rfl, HR.out⟩
set_option maxHeartbeats 4000000 in
theorem push28_full (h : IsJ w p j) (hr : RegJ j) (hl : j.ev.length = 16) (e : Ev) : Calls Tryz.prog 90 #[.pointer (some ⟨p, 0, none⟩), Vv (ofE e)] w fun x w' => x = .returned (.tuple #[]) ∧ IsJ w' p (pushJ j e) ∧ Kept [p] w w' := by
  obtain ⟨y, t, hyt⟩ : ∃ y t, j.ev = y :: t := by
    cases hx : j.ev with
    | nil => rw [hx] at hl; simp at hl
    | cons y t => exact ⟨y, t, rfl⟩
  rw [pushJ_full hyt hl]
  show Calls Tryz.prog 90 #[.pointer (some ⟨p, 0, none⟩), .agg #[Iv (e.r : Int), Iv e.v]] w _
  obtain ⟨W0, e0, k0, hz0, hb0⟩ := box1 w (.cells #[Iv (e.r : Int), Iv e.v] 92)
  have hpl := h.lt
  have h0 := (h.kept0 k0).isP
  have hc0 := h0.count
  rw [hl] at hc0
  obtain ⟨y0, y1⟩ := (h.kept0 k0).at (k := 0) (e := y) (by rw [hyt]; rfl)
  rw [Nat.zero_mul, Nat.add_zero] at y0 y1
  have hy7 := hr y (by rw [hyt]; simp)
  obtain ⟨W1, e1, k1, hz1, hb1⟩ := box1 W0 (.cells #[Iv (y.r : Int), Iv y.v] 92)
  have h1 := h0.kept0 k1
  have hzz : W0.heap.size = w.heap.size + 1 := hz0
  obtain ⟨x0, hx0⟩ : ∃ x, j.base[y.r]? = some x := ⟨_, List.getElem?_eq_getElem (by rw [h0.a8]; omega)⟩
  have c0 := h1.cellA hx0
  have f0 := h1.free y.r
  have c0' : W1.drew.cell? ⟨p, y.r, none⟩ = some (Iv x0) := c0
  have f0' : W1.drew.frozen? ⟨p, y.r, none⟩ = false := f0
  have S0 : W1.drew.cell? ⟨W0.heap.size, 0, none⟩ = some (Iv (y.r : Int)) ∧ W1.drew.cell? ⟨W0.heap.size, 1, none⟩ = some (Iv y.v) := cells2 hb1
  have k2 : Kept [p] W1 (W1.setCell ⟨p, y.r, none⟩ (Iv y.v)) := (Kept.refl [p] W1).setCell (p := ⟨p, y.r, none⟩) (.inl (by simp)) _
  have HQ : Hid ((W1.setCell ⟨p, y.r, none⟩ (Iv y.v)).drew.cell? ⟨W0.heap.size, 0, none⟩ = some (Iv (y.r : Int)) ∧ (W1.setCell ⟨p, y.r, none⟩ (Iv y.v)).drew.cell? ⟨W0.heap.size, 1, none⟩ = some (Iv y.v)) := cells2 (k2.drew.keeps hb1 (by simp; omega))
  have H2 : Hid (IsP (W1.setCell ⟨p, y.r, none⟩ (Iv y.v)).drew p (doE j.base y) (padE j.ev) 16 j.ver ∧ Kept [p] w (W1.setCell ⟨p, y.r, none⟩ (Iv y.v)).drew ∧ (W1.setCell ⟨p, y.r, none⟩ (Iv y.v)).drew.heap[w.heap.size]? = some (.cells #[Iv (e.r : Int), Iv e.v] 92 (0, 0))) := by
    have := h1.setA (i := y.r) (by omega) y.v
    rw [hl] at this
    exact ⟨this.kept0 (Kept.refl [] _).drew, (((k0.trans k1 (by simp)).mono (by simp)).trans k2 (by simp)).drew, k2.drew.keeps (k1.keeps hb0 (by simp)) (by simp; omega)⟩
  have r0 : (0 : Int) ≤ (y.r : Int) := by omega
  have r1 : (y.r : Int) < 8 := by omega
  clear h h0 h1 k0 k1 k2 hb0 hb1 hz0 hz1 hr hzz hx0
  go_enter Tryz.func90, Tryz.ntmps90
  go_wp2_with fail
  go_region_held3 (fun V => V.cell? ⟨W0.heap.size, 0, none⟩ = some (Iv (y.r : Int)) ∧ V.cell? ⟨W0.heap.size, 1, none⟩ = some (Iv y.v)) (first | with_reducible exact S0 | exact HQ.out) (fail)
  generalize (W1.setCell ⟨p, y.r, none⟩ (Iv y.v)).drew = W2 at *
  clear S0 c0 f0 c0' f0' HQ r0 r1 e0 e1 y0 y1 hc0
  obtain ⟨h2, k2, hb2⟩ := H2.out
  have hd2 := h2.kept0 (Kept.refl [] W2).drew
  obtain ⟨r3, W3, hrun, k3, x3, h3⟩ := hd2.mv
  have hsl1 := slice35w p
  have hsl2 := slice35l p
  have hb3 := k3.keeps (w := W2.drew) hb2 (by simp; omega)
  have hc3 := h3.count
  have fz3 := h3.free 40
  have k03 : Kept [p] w W3 := k2.drew.trans k3 (by simp)
  have h4 := h3.setn 15
  have k4 : Kept [p] w (W3.setCell ⟨p, 40, none⟩ (Iv 15)) := k03.setCell (p := ⟨p, 40, none⟩) (.inl (by simp)) _
  have hb4 : (W3.setCell ⟨p, 40, none⟩ (Iv 15)).heap[w.heap.size]? = some (.cells #[Iv (e.r : Int), Iv e.v] 92 (0, 0)) := ((Kept.refl [p] W3).setCell (p := ⟨p, 40, none⟩) (.inl (by simp)) _).keeps hb3 (by simp; omega)
  have H4 : Hid (IsP (W3.setCell ⟨p, 40, none⟩ (Iv 15)) p (doE j.base y) ((padE j.ev).drop 1 ++ [x3]) 15 j.ver ∧ Kept [p] w (W3.setCell ⟨p, 40, none⟩ (Iv 15)) ∧ (W3.setCell ⟨p, 40, none⟩ (Iv 15)).heap[w.heap.size]? = some (.cells #[Iv (e.r : Int), Iv e.v] 92 (0, 0))) := ⟨h4, k4, hb4⟩
  clear h2 k2 hb2 hd2 h3 k3 hb3 k03 h4 k4 hb4 H2
  go_wp2_with fail
  go_region_held3 (fun V => True) (trivial) (first | (refine step_copy_run 90 90 (.tmp 26) (.tmp 30) (by rfl) (by rfl) _ _ (by rfl) (by rfl) hrun ?_))
  clear hsl1 hsl2 hrun
  go_wp2_with fail
  generalize W3.setCell ⟨p, 40, none⟩ (Iv 15) = W4 at *
  obtain ⟨h4, k4, hb4⟩ := H4.out
  obtain ⟨⟨d0, d1, c0, c1, f0, f1⟩, S0, W5, e5, S5, fz, h6, k6⟩ := lay_last (n := 15) h4 (by omega) (ofE e) hb4 (by omega)
  dsimp only [ofE] at *
  have HR : Hid (IsJ (W5.setCell ⟨p, 40, none⟩ (Iv 16)).drew p ⟨doE j.base y, t ++ [e], j.ver⟩ ∧ Kept [p] w (W5.setCell ⟨p, 40, none⟩ (Iv 16)).drew) := by
    have ht : t.length = 15 := by rw [hyt] at hl; simpa using hl
    have hE : (List.drop 1 (padE j.ev) ++ [x3]).set 15 ((e.r : Int), e.v) = padE (t ++ [e]) := by
      rw [padE_full hl, padE_full (by simp [ht]), hyt, List.map_cons, List.drop_one, List.tail_cons, List.set_append_right _ _ (by rw [List.length_map, ht]; exact Nat.le_refl _), List.length_map, ht, List.map_append]
      rfl
    rw [hE] at h6
    refine ⟨IsJ.kept0 ⟨?_, by simp [ht]⟩ (Kept.refl [] _).drew, (k4.trans k6 (by simp)).drew⟩
    rw [List.length_append, ht]
    exact h6
  have g0 : W4.cell? ⟨p, 38, none⟩ = some d0 := c0
  have g1 : W4.cell? ⟨p, 39, none⟩ = some d1 := c1
  have g2 : W4.frozen? ⟨p, 38, none⟩ = false := f0
  have g3 : W4.frozen? ⟨p, 39, none⟩ = false := f1
  have c0' : W4.drew.cell? ⟨p, 38, none⟩ = some d0 := c0
  have c1' : W4.drew.cell? ⟨p, 39, none⟩ = some d1 := c1
  have f0' : W4.drew.frozen? ⟨p, 38, none⟩ = false := f0
  have f1' : W4.drew.frozen? ⟨p, 39, none⟩ = false := f1
  have S0' : W4.drew.cell? ⟨p, 40, none⟩ = some (Iv 15) ∧ W4.drew.cell? ⟨w.heap.size, 0, none⟩ = some (Iv (e.r : Int)) ∧ W4.drew.cell? ⟨w.heap.size, 1, none⟩ = some (Iv e.v) := S0
  have HE5 : Hid ((W4.setCell ⟨p, 38, none⟩ (Iv (e.r : Int))).setCell ⟨p, 39, none⟩ (Iv e.v) = W5) := e5
  have HQ : Hid (∀ V, V = (W4.setCell ⟨p, 38, none⟩ (Iv (e.r : Int))).setCell ⟨p, 39, none⟩ (Iv e.v) → V.drew.cell? ⟨p, 40, none⟩ = some (Iv 15) ∧ V.drew.cell? ⟨w.heap.size, 0, none⟩ = some (Iv (e.r : Int)) ∧ V.drew.cell? ⟨w.heap.size, 1, none⟩ = some (Iv e.v)) := fun V hV => by
    have hV' : V = W5 := hV.trans e5
    subst hV'
    exact S5
  have cn : W5.cell? ⟨p, 40, none⟩ = some (Iv 15) := S5.1
  clear h4 k4 hb4 h6 k6 H4 c0 c1 f0 f1 e5 S5 S0
  go_region_held3 (fun V => V.cell? ⟨p, 40, none⟩ = some (Iv 15) ∧ V.cell? ⟨w.heap.size, 0, none⟩ = some (Iv (e.r : Int)) ∧ V.cell? ⟨w.heap.size, 1, none⟩ = some (Iv e.v)) (first | with_reducible exact S0' | exact HQ.out _ rfl) (fail)
  rw [HE5.out]
  clear HQ g0 g1 g2 g3 c0' c1' f0' f1' S0' HE5
  go_wp2_with fail
  go_end0
  exact ⟨rfl, HR.out⟩
theorem push28 (h : IsJ w p j) (hr : RegJ j) (e : Ev) : Calls Tryz.prog 90 #[.pointer (some ⟨p, 0, none⟩), Vv (ofE e)] w fun x w' => x = .returned (.tuple #[]) ∧ IsJ w' p (pushJ j e) ∧ Kept [p] w w' := by
  by_cases hl : j.ev.length < 16
  · exact push28_few h hl e
  · exact push28_full h hr (by have := h.len; omega) e
end
end Go.Proofs.YtngnenbidpojeaaGreatDoor
