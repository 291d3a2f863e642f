import Derived.Test.YtngnenbidpojeaaDoorW17
/-
  New, Base, Version and the events' row of a journal.
-/
namespace Go.Proofs.YtngnenbidpojeaaDoor
set_option maxRecDepth 100000
open Go.RowKit
set_option linter.unusedVariables false
theorem wpList_load_run {w : World} {ops : Array Oper} {rest : List Oper} {o : Oper} {a : Act} {Q : Exit → Act → World → Prop} (t : TypeId) (x : Operand)
    (hop : o.op = .load t x) (hg : o.guard = none) (vx : Value) (hx : a.eval x = vx) (v : Value) (hrun : (Instr.loadAt t vx).run Tryd.prog w = .ok v w)
    (h : wpList Tryd.prog ops Q rest (a.put o.dst v) w) : wpList Tryd.prog ops Q (o :: rest) a w := by
  refine wpList_plain hg fun K hK' => ?_
  unfold Oper.wp execOp
  simp only [hop, hx, Sem.run_bind, Sem.run_pure, Result.andThen_ok, hrun]
  exact hK' _ _ h
theorem wpList_alloc_run {w : World} {ops : Array Oper} {rest : List Oper} {o : Oper} {a : Act} {Q : Exit → Act → World → Prop} (t : TypeId)
    (hop : o.op = .alloc t) (hg : o.guard = none) (v : Value) (w' : World) (hrun : (Instr.alloc t true (.tuple #[])).run Tryd.prog w = .ok v w')
    (h : wpList Tryd.prog ops Q rest (a.put o.dst v) w') : wpList Tryd.prog ops Q (o :: rest) a w := by
  refine wpList_plain hg fun K hK' => ?_
  unfold Oper.wp execOp
  simp only [hop, Sem.run_bind, Sem.run_pure, Result.andThen_ok, hrun]
  exact hK' _ _ h
theorem wpList_store_run {w : World} {ops : Array Oper} {rest : List Oper} {o : Oper} {a : Act} {Q : Exit → Act → World → Prop} (t : TypeId) (x y : Operand)
    (hop : o.op = .store t x y) (hg : o.guard = none) (vx vy : Value) (hx : a.eval x = vx) (hy : a.eval y = vy) (w' : World) (hrun : (Instr.storeAt t vx vy).run Tryd.prog w = .ok () w')
    (h : wpList Tryd.prog ops Q rest (a.put o.dst undef) w') : wpList Tryd.prog ops Q (o :: rest) a w := by
  refine wpList_plain hg fun K hK' => ?_
  unfold Oper.wp execOp
  simp only [hop, hx, hy, Sem.run_bind, Sem.run_pure, Result.andThen_ok, hrun]
  exact hK' _ _ h
/-- Eight noughts. -/
abbrev z8 : List Int := [0, 0, 0, 0, 0, 0, 0, 0]
theorem alloc29 (W : World) : (Instr.alloc 58 true (.tuple #[])).run Tryd.prog W = .ok (.pointer (some ⟨W.heap.size, 0, none⟩)) (W.alloc (.cells (BI z8).toArray 58)) := by kernel_rfl
theorem size29 : (Tryd.prog.info? 58).map (·.size) = some 8 := by kernel_rfl
/-- An array of eight at block g. -/
structure IsA (w : World) (g : Nat) (A : List Int) : Prop where
  box : w.heap[g]? = some (.cells (BI A).toArray 58 (0, 0))
  a8 : A.length = 8
section
variable {w w' : World} {g : Nat} {A : List Int}
theorem IsA.kept0 (h : IsA w g A) (k : Kept [] w w') : IsA w' g A := ⟨k.keeps h.box (by simp), h.a8⟩
theorem IsA.new (w : World) : IsA (w.alloc (.cells (BI z8).toArray 58)) w.heap.size z8 := ⟨heap_alloc_new w _, rfl⟩
theorem IsA.cell (h : IsA w g A) {i : Nat} {x : Int} (hi : A[i]? = some x) : w.cell? ⟨g, i, none⟩ = some (Iv x) := cell_list h.box (BI_get hi)
theorem IsA.free (h : IsA w g A) (i : Nat) : w.frozen? ⟨g, i, none⟩ = false := by simp [World.frozen?, h.box]
theorem IsA.set (h : IsA w g A) {i : Nat} (hi : i < 8) (x : Int) : IsA (w.setCell ⟨g, i, none⟩ (Iv x)) g (A.set i x) := ⟨by rw [set_list h.box, BI_set], by rw [List.length_set]; exact h.a8⟩
theorem IsA.load (h : IsA w g A) : (Instr.loadAt 58 (.pointer (some ⟨g, 0, none⟩))).run Tryd.prog w = .ok (.agg (BI A).toArray) w :=
  run_loadAt_mid w g 0 58 _ _ (fun j v hv => by rw [Nat.zero_add]; exact cell_list h.box hv) Tryd.underlying58 rfl (by rw [BI_length, h.a8]; exact size29)
theorem IsA.store (h : IsA w g A) {B : List Int} (hB : B.length = 8) : ∃ W, (Instr.storeAt 58 (.pointer (some ⟨g, 0, none⟩)) (.agg (BI B).toArray)).run Tryd.prog w = .ok () W ∧ IsA W g B ∧ Kept [g] w W ∧ W.heap.size = w.heap.size := by
  refine ⟨_, run_storeAt_mid w g 0 58 (BI B).toArray (fun j hj => ?_) (by rw [List.size_toArray, BI_length, hB]; exact size29) (all_oneCell_toArray (BI_one B)), ⟨?_, hB⟩, Kept.setCells (.inl (by simp)) _ (Kept.refl [g] w) 0, size_setCells _ _ _⟩
  · rw [List.size_toArray, BI_length, hB] at hj
    refine ⟨?_, h.free _⟩
    rw [h.cell (List.getElem?_eq_getElem (i := 0 + j) (by rw [h.a8]; omega))]
    rfl
  · rw [setCells_list _ h.box]
    have := sets_parts [] (BI A) (BI B) [] 0 rfl (by rw [BI_length, BI_length, h.a8, hB])
    simp only [List.nil_append, List.append_nil] at this
    rw [this]
end
theorem result29 {fn : Func} {u : Tmp} (h : fn.results = #[.cell u 58]) (tmps : Array Value) (w : World) (g : Nat) (A : List Int) (hp : tmps.getD u undef = .pointer (some ⟨g, 0, none⟩)) (hA : IsA w g A) : (results fn tmps).run Tryd.prog w = .ok (.agg (BI A).toArray) w :=
  results_cell_row h tmps w g 58 _ (0, 0) _ hp hA.box Tryd.underlying58 rfl (by rw [List.size_toArray, BI_length, hA.a8]; exact size29)
section
variable {w : World} {p : Nat} {j : Jn}
theorem new11_J : Calls Tryd.prog 16 #[] w fun e w' => ∃ p, e = .returned (.pointer (some ⟨p, 0, none⟩)) ∧ IsJ w' p newJ ∧ Kept [] w w' ∧ w.heap.size ≤ p := by
  go_enter Tryd.func16, Tryd.ntmps16
  go_wp2_with fail
  go_ret
  exact ⟨_, rfl, IsJ.new w, (Kept.refl [] w).alloc _, Nat.le_refl _⟩
theorem version19 {A : List Int} {E : List Ep} {n : Int} {v : Nat} (h : IsP w p A E n v) : Calls Tryd.prog 10 #[.pointer (some ⟨p, 0, none⟩)] w fun e w' => e = .returned (Uv v) ∧ w = w' := by
  have hv := h.ver
  clear h
  go_enter Tryd.func10, Tryd.ntmps10
  go_wp2_with fail
  go_ret
  exact ⟨rfl, rfl⟩
set_option maxHeartbeats 1000000 in
theorem base25 {A : List Int} {E : List Ep} {n : Int} {v : Nat} (h : IsP w p A E n v) : Calls Tryd.prog 34 #[.pointer (some ⟨p, 0, none⟩)] w fun e w' => e = .returned (.agg (BI A).toArray) ∧ Kept [] w w' := by
  have hal := alloc29 w
  have hA0 := IsA.new w
  have k0 := (Kept.refl [] w).alloc (.cells (BI z8).toArray 58)
  generalize w.alloc (.cells (BI z8).toArray 58) = W0 at *
  have h0 := h.kept0 k0
  have hld : (Instr.loadAt 58 (.pointer (some ⟨p, 0, none⟩))).run Tryd.prog W0 = .ok (.agg (BI A).toArray) W0 := run_loadAt_mid W0 p 0 58 _ _ h0.rangeA Tryd.underlying58 rfl (by rw [BI_length, h.a8]; exact size29)
  obtain ⟨W1, hst, hA1, k1, -⟩ := hA0.store h.a8
  have HR : Hid (IsA W1 w.heap.size A ∧ Kept [] w W1) := ⟨hA1, k0.trans k1 (by simp)⟩
  clear h h0 hA0 hA1 k0 k1
  go_enter Tryd.func34, Tryd.ntmps34
  go_wp2_with (first | (refine wpList_alloc_run 58 rfl rfl _ _ hal ?_) | (refine wpList_load_run 58 (.tmp 8) rfl rfl _ rfl _ hld ?_) | (refine wpList_store_run 58 (.tmp 2) (.tmp 9) rfl rfl _ _ rfl rfl _ hst ?_))
  exact bodyPost_ret (result29 (u := 2) rfl _ _ w.heap.size A rfl HR.out.1) rfl ⟨rfl, HR.out.2⟩
theorem doA_take {b : List Int} {l : List Ev} {k : Nat} {y : Ev} (hy : l[k]? = some y) : doA b (l.take (k + 1)) = (doA b (l.take k)).set y.r y.v := by
  rw [List.take_add_one, hy, doA_append]
  rfl
theorem slice35h (p n : Nat) (h2 : n ≤ 16) (W : World) : (Instr.sliceAt 83 (.pointer (some ⟨p, 8, none⟩)) none (some (.int .i64 (n : Int))) none).run Tryd.prog W = .ok (.slice (some ⟨p, 8, none⟩) n 16) W := by
  have ht : Tryd.prog.underlying 83 = some (.array (Tryd.prog.arrayLen 83) (Tryd.prog.elem 83)) := by kernel_rfl
  have h64 : Tryd.prog.arrayLen 83 = 16 := by kernel_rfl
  have he : Tryd.prog.elem 83 = 82 := by kernel_rfl
  have hs : (sizeOf 82).run Tryd.prog W = .ok 2 W := by kernel_rfl
  rw [run_sliceAt_array_h W 83 ⟨p, 8, none⟩ ht .i64 (n : Int) (by omega) (by rw [h64]; omega), he, hs, Result.andThen_ok, slicedAt, h64, add_at]
  rfl
set_option maxHeartbeats 1000000 in
theorem behind31 (h : IsJ w p j) : Calls Tryd.prog 35 #[.pointer (some ⟨p, 0, none⟩)] w fun e w' => e = .returned (.slice (some ⟨p, 8, none⟩) j.ev.length 16) ∧ Kept [] w w' := by
  have S0 : w.drew.cell? ⟨p, 40, none⟩ = some (Iv (j.ev.length : Int)) := h.isP.count
  have hsl : ∀ W : World, (Instr.sliceAt 83 (.pointer (some ⟨p, 8, none⟩)) none (some (.int .i64 (j.ev.length : Int))) none).run Tryd.prog W = _ := slice35h p j.ev.length h.len
  have h0 : (0 : Int) ≤ (j.ev.length : Int) := by omega
  have h1 : (j.ev.length : Int) ≤ 16 := by have := h.len; omega
  clear h
  go_enter Tryd.func35, Tryd.ntmps35
  go_wp2_with fail
  go_region
  go_wp2_with fail
  go_ret
  exact ⟨rfl, (Kept.refl [] w).drew⟩
theorem rowE_form {w : World} {v : Value} {l : List Ep} (h : ReadsR 2 w v (CE l)) : ∃ a c, v = .slice a l.length c ∧ l.length ≤ c ∧ c ≤ 9223372036854775807 := by
  have := ReadsR.form h
  rwa [CE_length] at this
theorem rowE_at {w : World} {a : Option Addr} {n c : Nat} {l : List Ep} (h : ReadsR 2 w (.slice a n c) (CE l)) {j : Nat} {y : Ep} (hy : l[j]? = some y) : ∃ b o, a = some ⟨b, o, none⟩ ∧ w.cell? ⟨b, o + j * 2, none⟩ = some (Iv y.1) ∧ w.cell? ⟨b, o + j * 2 + 1, none⟩ = some (Iv y.2) := by
  obtain ⟨b, o, c', e, hc⟩ := ReadsR.at h j (cellsE y) (by simp [CE, hy])
  injection e with e _ _
  have h0 := hc 0 _ rfl
  have h1 := hc 1 _ rfl
  rw [Nat.add_zero] at h0
  exact ⟨b, o, e, h0, h1⟩
set_option maxHeartbeats 2000000 in
theorem state18 (h : IsJ w p j) (hr : RegJ j) : Calls Tryd.prog 14 #[.pointer (some ⟨p, 0, none⟩)] w fun e w' => e = .returned (.agg (BI (stJ j)).toArray) ∧ Kept [] w w' := by
  have hal := alloc29 w
  have hA0 := IsA.new w
  have k0 := (Kept.refl [] w).alloc (.cells (BI z8).toArray 58)
  have hs0 : (w.alloc (.cells (BI z8).toArray 58)).heap.size = w.heap.size + 1 := by simp
  generalize w.alloc (.cells (BI z8).toArray 58) = W0 at *
  have HB := Hid.mk (base25 (h.kept0 k0).isP)
  have HJ := Hid.mk h
  have hb8 := h.isP.a8
  clear h
  go_enter Tryd.func14, Tryd.ntmps14
  go_wp2_with (first | (refine wpList_alloc_run 58 rfl rfl _ _ hal ?_))
  refine HB.out.mono ?_
  rintro e w1 ⟨rfl, k1⟩
  have hal1 := alloc29 w1
  have hA1 := IsA.new w1
  have kA := (Kept.refl [] w1).alloc (.cells (BI z8).toArray 58)
  have hs1 : (w1.alloc (.cells (BI z8).toArray 58)).heap.size = w1.heap.size + 1 := by simp
  generalize w1.alloc (.cells (BI z8).toArray 58) = W1 at *
  obtain ⟨W2, hst, hA2, kS, hs2⟩ := hA1.store hb8
  have h01 : w.heap.size < w1.heap.size := by have := k1.size; omega
  have k02 : Kept [] w W2 := (k0.trans (k1.trans kA (by simp)) (by simp)).trans kS (by simp; omega)
  have hA02 : IsA W2 w.heap.size z8 := ⟨kS.keeps (kA.keeps (k1.keeps hA0.box (by simp)) (by simp)) (by simp; omega), rfl⟩
  have HC := Hid.mk (behind31 (HJ.out.kept0 k02))
  clear hal hA0 k0 hs0 HB k1 hA1 kA hs1 kS
  go_wp2_with (first | (refine wpList_alloc_run 58 rfl rfl _ _ hal1 ?_) | (refine wpList_store_run 58 (.tmp 3) (.tmp 7) rfl rfl _ _ rfl rfl _ hst ?_))
  refine HC.out.mono ?_
  rintro e w3 ⟨rfl, k3⟩
  have k03 := k02.trans k3 (by simp)
  have hA03 := hA02.kept0 k3
  have hA3 := hA2.kept0 k3
  clear HC k02 hA02 hA2 hst hal1 hs2
  have hw1 : ∀ x : World, True := fun _ => trivial
  generalize w1.heap.size = g at *
  generalize hn : j.ev.length = n at *
  have HN := Hid.mk hn
  have hn16 : n ≤ 16 := by have := HJ.out.len; omega
  clear hn hw1
  go_wp2_with fail
  go_loopw [11] (fun i wr => ∃ k : Nat, i = .int .i64 (k : Int) ∧ k ≤ n ∧ Hid (IsA wr g (doA j.base (j.ev.take k)) ∧ IsA wr w.heap.size z8 ∧ Kept [] w wr)) (fun i _ => n - (intOf i).toNat)
  case atStart => exact ⟨0, rfl, by omega, Hid.mk ⟨hA3, hA03, k03⟩⟩
  case round =>
    obtain ⟨k, rfl, hk, H⟩ := hrel
    by_cases hlt : k < n
    · obtain ⟨y, hy⟩ : ∃ y, j.ev[k]? = some y := ⟨_, List.getElem?_eq_getElem (by have := HN.out; omega)⟩
      obtain ⟨d0, d1⟩ := (HJ.out.kept0 H.out.2.2).at hy
      have hjI : (k : Int) < (n : Int) := by omega
      have hj16 : (n : Int) ≤ 16 := by omega
      have hy7 := hr y (List.mem_of_getElem? hy)
      have k1 := (Kept.refl [] wr).alloc (.cells #[.int .i64 (y.r : Int), .int .i64 y.v] 82)
      have hA1 := H.out.1.kept0 k1
      obtain ⟨c0, hc0⟩ : ∃ c, (doA j.base (j.ev.take k))[y.r]? = some c := ⟨_, List.getElem?_eq_getElem (by rw [H.out.1.a8]; omega)⟩
      have x0 := H.out.1.cell hc0
      have x1 := hA1.cell hc0
      have f0 := H.out.1.free y.r
      have f1 := hA1.free y.r
      have r0 : (0 : Int) ≤ (y.r : Int) := by omega
      have r1 : (y.r : Int) < 8 := by omega
      have hgr : w.heap.size ≠ g := by omega
      have HR : Hid (IsA ((wr.alloc (.cells #[.int .i64 (y.r : Int), .int .i64 y.v] 82)).setCell ⟨g, y.r, none⟩ (.int .i64 y.v)) g (doA j.base (j.ev.take (k + 1))) ∧ IsA ((wr.alloc (.cells #[.int .i64 (y.r : Int), .int .i64 y.v] 82)).setCell ⟨g, y.r, none⟩ (.int .i64 y.v)) w.heap.size z8 ∧ Kept [] w ((wr.alloc (.cells #[.int .i64 (y.r : Int), .int .i64 y.v] 82)).setCell ⟨g, y.r, none⟩ (.int .i64 y.v))) := by
        have ks := (Kept.refl [g] (wr.alloc (.cells #[.int .i64 (y.r : Int), .int .i64 y.v] 82))).setCell (p := ⟨g, y.r, none⟩) (.inl (by simp)) (.int .i64 y.v)
        rw [doA_take hy]
        exact ⟨hA1.set (by omega) y.v, ⟨ks.keeps (H.out.2.1.kept0 k1).box (by simpa using hgr), rfl⟩, (H.out.2.2.trans k1 (by simp)).trans ks (by simp; omega)⟩
      clear hA3 hA03 k03 k3 k1 hA1 hc0 hy H
      go_wp2_with fail
      go_roundw
      case rel => exact ⟨k + 1, by go_num, by omega, HR⟩
      case measure => simp [intOf]; omega
    · obtain rfl : k = n := by omega
      have hA := H.out.1
      rw [List.take_of_length_le (by rw [HN.out]; exact Nat.le_refl _)] at hA
      have hld := hA.load
      obtain ⟨W4, hst, hA4, kS, -⟩ := H.out.2.1.store (B := doA j.base j.ev) hA.a8
      have HR : Hid (IsA W4 w.heap.size (doA j.base j.ev) ∧ Kept [] w W4) := ⟨hA4, H.out.2.2.trans kS (by simp)⟩
      clear hA3 hA03 k03 k3 H hA kS hA4
      go_wp2_with (first | (refine wpList_load_run 58 (.tmp 3) rfl rfl _ rfl _ hld ?_) | (refine wpList_store_run 58 (.tmp 2) (.tmp 21) rfl rfl _ _ rfl rfl _ hst ?_))
      exact bodyPost_ret (result29 (u := 2) rfl _ _ w.heap.size _ rfl HR.out.1) rfl ⟨rfl, HR.out.2⟩
end
end Go.Proofs.YtngnenbidpojeaaDoor
