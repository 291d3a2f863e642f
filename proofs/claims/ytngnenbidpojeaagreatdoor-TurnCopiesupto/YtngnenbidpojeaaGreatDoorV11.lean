import Derived.Test.YtngnenbidpojeaaGreatDoorV10
/-
  copyOut, push, next of an outbox; New.
-/
namespace Go.Proofs.YtngnenbidpojeaaGreatDoor
set_option maxRecDepth 100000
open Go.RowKit
set_option linter.unusedVariables false
section
variable {w : World} {b : Nat} {t : TypeId} {v0 v1 v2 v3 v4 : Value}
theorem cells5 (h : w.heap[b]? = some (.cells #[v0, v1, v2, v3, v4] t (0, 0))) : w.cell? ⟨b, 0, none⟩ = some v0 ∧ w.cell? ⟨b, 1, none⟩ = some v1 ∧ w.cell? ⟨b, 2, none⟩ = some v2 ∧ w.cell? ⟨b, 3, none⟩ = some v3 ∧ w.cell? ⟨b, 4, none⟩ = some v4 := by simp [World.cell?, h]
theorem free5 (h : w.heap[b]? = some (.cells #[v0, v1, v2, v3, v4] t (0, 0))) : w.frozen? ⟨b, 0, none⟩ = false ∧ w.frozen? ⟨b, 1, none⟩ = false ∧ w.frozen? ⟨b, 2, none⟩ = false ∧ w.frozen? ⟨b, 3, none⟩ = false ∧ w.frozen? ⟨b, 4, none⟩ = false := by simp [World.frozen?, h]
theorem put5 (h : w.heap[b]? = some (.cells #[v0, v1, v2, v3, v4] t (0, 0))) (x0 x1 x2 x3 x4 : Value) : ∃ W, ((((w.setCell ⟨b, 0, none⟩ x0).setCell ⟨b, 1, none⟩ x1).setCell ⟨b, 2, none⟩ x2).setCell ⟨b, 3, none⟩ x3).setCell ⟨b, 4, none⟩ x4 = W ∧ Kept [b] w W ∧ W.heap[b]? = some (.cells #[x0, x1, x2, x3, x4] t (0, 0)) ∧ W.heap.size = w.heap.size :=
  ⟨_, rfl, (((((Kept.refl [b] w).setCell (p := ⟨b, 0, none⟩) (.inl (by simp)) x0).setCell (p := ⟨b, 1, none⟩) (.inl (by simp)) x1).setCell (p := ⟨b, 2, none⟩) (.inl (by simp)) x2).setCell (p := ⟨b, 3, none⟩) (.inl (by simp)) x3).setCell (p := ⟨b, 4, none⟩) (.inl (by simp)) x4, set_at (set_at (set_at (set_at (set_at h)))), by simp⟩
end
/-- Five cells of a long block that are stored whole. -/
theorem putY {w : World} {p o : Nat} {L : List Value} {t : TypeId} (h : w.heap[p]? = some (.cells L.toArray t (0, 0))) (x0 x1 x2 x3 x4 : Value) : ∃ W, ((((w.setCell ⟨p, o, none⟩ x0).setCell ⟨p, o + 1, none⟩ x1).setCell ⟨p, o + 2, none⟩ x2).setCell ⟨p, o + 3, none⟩ x3).setCell ⟨p, o + 4, none⟩ x4 = W ∧ Kept [p] w W ∧ W.heap[p]? = some (.cells (((((L.set o x0).set (o + 1) x1).set (o + 2) x2).set (o + 3) x3).set (o + 4) x4).toArray t (0, 0)) ∧ W.heap.size = w.heap.size :=
  ⟨_, rfl, (((((Kept.refl [p] w).setCell (p := ⟨p, o, none⟩) (.inl (by simp)) x0).setCell (p := ⟨p, o + 1, none⟩) (.inl (by simp)) x1).setCell (p := ⟨p, o + 2, none⟩) (.inl (by simp)) x2).setCell (p := ⟨p, o + 3, none⟩) (.inl (by simp)) x3).setCell (p := ⟨p, o + 4, none⟩) (.inl (by simp)) x4, set_list (set_list (set_list (set_list (set_list h)))), by simp⟩
/-- What is outside of five cells that are stored. -/
theorem set5_ne (L : List Value) (o i : Nat) (x0 x1 x2 x3 x4 : Value) (h : i < o ∨ o + 5 ≤ i) : (((((L.set o x0).set (o + 1) x1).set (o + 2) x2).set (o + 3) x3).set (o + 4) x4)[i]? = L[i]? := by
  rw [List.getElem?_set_ne (by omega), List.getElem?_set_ne (by omega), List.getElem?_set_ne (by omega), List.getElem?_set_ne (by omega), List.getElem?_set_ne (by omega)]
theorem set5_at (L : List Value) (o : Nat) (x0 x1 x2 x3 x4 : Value) (h : o + 5 ≤ L.length) (i : Nat) (v : Value) (hi : [x0, x1, x2, x3, x4][i]? = some v) : (((((L.set o x0).set (o + 1) x1).set (o + 2) x2).set (o + 3) x3).set (o + 4) x4)[o + i]? = some v := by
  match i, hi with
  | 0, hi => rw [List.getElem?_set_ne (by omega), List.getElem?_set_ne (by omega), List.getElem?_set_ne (by omega), List.getElem?_set_ne (by omega), Nat.add_zero, List.getElem?_set_self (by omega)]; exact hi
  | 1, hi => rw [List.getElem?_set_ne (by omega), List.getElem?_set_ne (by omega), List.getElem?_set_ne (by omega), List.getElem?_set_self (by simp; omega)]; exact hi
  | 2, hi => rw [List.getElem?_set_ne (by omega), List.getElem?_set_ne (by omega), List.getElem?_set_self (by simp; omega)]; exact hi
  | 3, hi => rw [List.getElem?_set_ne (by omega), List.getElem?_set_self (by simp; omega)]; exact hi
  | 4, hi => rw [List.getElem?_set_self (by simp; omega)]; exact hi
  | n + 5, hi => simp at hi
/-- A letter more. -/
theorem CellsO.push {cs : List Value} {own : List UInt8} {K : List La} {qs : List Yq} (h : CellsO cs own K qs) (hK : K.length ≤ 64) (hq : qs.length < 32) (y : Yq) :
    CellsO ((((((cs.set (130 + qs.length * 5) (Sv y.to)).set (130 + qs.length * 5 + 1) (Sv y.q.x.fr)).set (130 + qs.length * 5 + 2) (.int .u64 (y.q.x.ser : Int))).set (130 + qs.length * 5 + 3) (.int .i64 y.q.x.kind)).set (130 + qs.length * 5 + 4) y.q.sl).set 290 (.int .i64 ((qs.length + 1 : Nat) : Int))) own K (qs ++ [y]) := by
  have hl := h.len
  refine ⟨by simp only [List.length_set]; exact hl, ?_, fun i z hz m v hv => ?_, ?_, fun i z hz m v hv => ?_, ?_, set_one (set_one (set_one (set_one (set_one (set_one h.one rfl) rfl) rfl) rfl) rfl) rfl⟩
  · rw [List.getElem?_set_ne (by omega), set5_ne _ _ _ _ _ _ _ _ (by omega)]; exact h.own
  · have := get_lt hz
    have := cellsK_lt hv
    rw [List.getElem?_set_ne (by omega), set5_ne _ _ _ _ _ _ _ _ (by omega)]; exact h.ks i z hz m v hv
  · rw [List.getElem?_set_ne (by omega), set5_ne _ _ _ _ _ _ _ _ (by omega)]; exact h.kn
  · have hi := get_lt hz
    have hm := cellsY_lt hv
    rw [List.length_append, List.length_singleton] at hi
    rw [List.getElem?_set_ne (by omega)]
    by_cases hlt : i < qs.length
    · rw [List.getElem?_append_left hlt] at hz
      rw [set5_ne _ _ _ _ _ _ _ _ (by omega)]
      exact h.ys i z hz m v hv
    · have : i = qs.length := by omega
      subst this
      simp at hz
      subst hz
      exact set5_at _ _ _ _ _ _ _ (by omega) m v hv
  · rw [List.getElem?_set_self (by simp only [List.length_set]; omega), List.length_append]; rfl
section
variable {w : World} {p : Nat} {own : List UInt8} {K : List La} {qs : List Yq}
theorem IsO.new (own : List UInt8) (w : World) : IsO (w.alloc (.cells (zeroO own).toArray 168)) w.heap.size own [] [] :=
  ⟨⟨_, heap_alloc_new w _, cellsO_new own⟩, by simp, by simp, by simp⟩
end
end Go.Proofs.YtngnenbidpojeaaGreatDoor
/-
  New, push and next of an outbox.
-/
namespace Go.Proofs.YtngnenbidpojeaaGreatDoor
set_option maxRecDepth 100000
open Go.RowKit
set_option linter.unusedVariables false
section
variable {w : World} {p : Nat} {own : List UInt8} {K : List La} {qs : List Yq}
theorem zeroC63 (own : List UInt8) : Tryz.zeroCells168.setIfInBounds 0 (Sv own) = (zeroO own).toArray := by kernel_rfl
set_option maxHeartbeats 1000000 in
theorem new11_no (own : List UInt8) (h : isKey own = false) (hl : own.length ≤ 281474976710656) : Calls Tryz.prog 56 #[Sv own] w fun e w' => e = .returned (.tuple #[.pointer none, .int .i64 1]) ∧ w = w' := by
  have HK := Hid.mk (isKey26 (w := w) own hl)
  rw [h] at HK
  go_enter Tryz.func56, Tryz.ntmps56
  go_wp2_with fail
  refine HK.out.mono ?_
  rintro e w1 ⟨rfl, rfl⟩
  go_wp2_with fail
  go_ret2
  exact ⟨rfl, rfl⟩
set_option maxHeartbeats 1000000 in
theorem push60 (y : Yq) (hB : IsO w p own K qs) (hn : qs.length < 32) (hy : OwnsJ w y.q.sl y.q.x.args) : Calls Tryz.prog 85 #[.pointer (some ⟨p, 0, none⟩), Yv y.to y.q.x y.q.ad y.q.cap] w fun e w' => e = .returned (.tuple #[]) ∧ IsO w' p own K (qs ++ [y]) ∧ Kept [p] w w' := by
  have HB := Hid.mk hB
  have HY := Hid.mk hy
  have hpl := hB.lt
  clear hB hy
  go_enter Tryz.func85, Tryz.ntmps85
  go_wp2_with fail
  obtain ⟨W0, e0, k0, hz0, hb0⟩ := box1 w (.cells #[Sv y.to, Sv y.q.x.fr, .int .u64 (y.q.x.ser : Int), .int .i64 y.q.x.kind, .slice y.q.ad y.q.x.args.length y.q.cap] 130)
  rw [e0]
  clear e0
  have hB0 := HB.out.kept0 k0
  have kd := k0.drew
  have hBd : IsO W0.drew p own K qs := HB.out.kept0 kd
  obtain ⟨b0, b1, b2, b3, b4⟩ := cells5 (w := W0.drew) hb0
  have c0 := hBd.count
  have g0 : (0 : Int) ≤ (qs.length : Int) := by omega
  have g1 : (qs.length : Int) < 32 := by omega
  obtain ⟨d0, hd0⟩ := hB0.any (i := 130 + qs.length * 5) (by omega)
  obtain ⟨d1, hd1⟩ := hB0.any (i := 130 + qs.length * 5 + 1) (by omega)
  obtain ⟨d2, hd2⟩ := hB0.any (i := 130 + qs.length * 5 + 2) (by omega)
  obtain ⟨d3, hd3⟩ := hB0.any (i := 130 + qs.length * 5 + 3) (by omega)
  obtain ⟨d4, hd4⟩ := hB0.any (i := 130 + qs.length * 5 + 4) (by omega)
  have f0 := hB0.free (130 + qs.length * 5)
  have f1 := hB0.free (130 + qs.length * 5 + 1)
  have f2 := hB0.free (130 + qs.length * 5 + 2)
  have f3 := hB0.free (130 + qs.length * 5 + 3)
  have f4 := hB0.free (130 + qs.length * 5 + 4)
  have e0 : W0.drew.cell? ⟨p, 130 + qs.length * 5, none⟩ = some d0 := hd0
  have e1 : W0.drew.cell? ⟨p, 130 + qs.length * 5 + 1, none⟩ = some d1 := hd1
  have e2 : W0.drew.cell? ⟨p, 130 + qs.length * 5 + 2, none⟩ = some d2 := hd2
  have e3 : W0.drew.cell? ⟨p, 130 + qs.length * 5 + 3, none⟩ = some d3 := hd3
  have e4 : W0.drew.cell? ⟨p, 130 + qs.length * 5 + 4, none⟩ = some d4 := hd4
  have i0 : W0.drew.frozen? ⟨p, 130 + qs.length * 5, none⟩ = false := f0
  have i1 : W0.drew.frozen? ⟨p, 130 + qs.length * 5 + 1, none⟩ = false := f1
  have i2 : W0.drew.frozen? ⟨p, 130 + qs.length * 5 + 2, none⟩ = false := f2
  have i3 : W0.drew.frozen? ⟨p, 130 + qs.length * 5 + 3, none⟩ = false := f3
  have i4 : W0.drew.frozen? ⟨p, 130 + qs.length * 5 + 4, none⟩ = false := f4
  obtain ⟨cs, hbx, hcs⟩ := hB0.box
  obtain ⟨W5, e5, k5, h5, hz5⟩ := putY (o := 130 + qs.length * 5) hbx (Sv y.to) (Sv y.q.x.fr) (.int .u64 (y.q.x.ser : Int)) (.int .i64 y.q.x.kind) (.slice y.q.ad y.q.x.args.length y.q.cap)
  have HE5 := Hid.mk e5
  have hK := hB0.kn
  have hP := hcs.push hK hn y
  have h6 := set_list (k := 290) (x := .int .i64 ((qs.length + 1 : Nat) : Int)) h5
  have q5 : W5.cell? ⟨p, 290, none⟩ = some (.int .i64 (qs.length : Int)) := by
    refine IsO.cell h5 ?_
    rw [set5_ne _ _ _ _ _ _ _ _ (by omega)]
    exact hcs.yn
  have u5 : W5.frozen? ⟨p, 290, none⟩ = false := by simp [World.frozen?, h5]
  have k6 := k5.setCell (p := ⟨p, 290, none⟩) (.inl (by simp)) (.int .i64 ((qs.length + 1 : Nat) : Int))
  have HR : Hid (IsO (W5.setCell ⟨p, 290, none⟩ (.int .i64 ((qs.length + 1 : Nat) : Int))).drew p own K (qs ++ [y]) ∧ Kept [p] w (W5.setCell ⟨p, 290, none⟩ (.int .i64 ((qs.length + 1 : Nat) : Int))).drew) := by
    refine ⟨⟨⟨_, h6, hP⟩, hK, by simp; omega, fun z hz => ?_⟩, ((k0.mono (by simp)).trans k6 (by simp)).drew⟩
    have : OwnsJ W0 z.q.sl z.q.x.args := by
      rcases List.mem_append.1 hz with h | h
      · exact hB0.args z h
      · simp at h; subst h; exact HY.out.kept k0 (by simp)
    exact this.kept k6.drew (fun g hg hm => by simp at hm; subst hm; exact ownsJ_ne this hbx (by decide) hg)
  have HQ : Hid (∀ V, V = ((((W0.setCell ⟨p, 130 + qs.length * 5, none⟩ (Sv y.to)).setCell ⟨p, 130 + qs.length * 5 + 1, none⟩ (Sv y.q.x.fr)).setCell ⟨p, 130 + qs.length * 5 + 2, none⟩ (.int .u64 (y.q.x.ser : Int))).setCell ⟨p, 130 + qs.length * 5 + 3, none⟩ (.int .i64 y.q.x.kind)).setCell ⟨p, 130 + qs.length * 5 + 4, none⟩ (.slice y.q.ad y.q.x.args.length y.q.cap) → V.drew.cell? ⟨p, 290, none⟩ = some (.int .i64 (qs.length : Int)) ∧ V.drew.cell? ⟨w.heap.size, 0, none⟩ = some (Sv y.to) ∧ V.drew.cell? ⟨w.heap.size, 1, none⟩ = some (Sv y.q.x.fr) ∧ V.drew.cell? ⟨w.heap.size, 2, none⟩ = some (.int .u64 (y.q.x.ser : Int)) ∧ V.drew.cell? ⟨w.heap.size, 3, none⟩ = some (.int .i64 y.q.x.kind) ∧ V.drew.cell? ⟨w.heap.size, 4, none⟩ = some (.slice y.q.ad y.q.x.args.length y.q.cap)) := fun V hV => by
    rw [HE5.out] at hV
    subst hV
    exact ⟨q5, cells5 (k5.keeps hb0 (by simp; omega))⟩
  clear hbx hcs h5 hP h6 k6 hK e5 hB0 hb0 kd hBd
  go_region_held3 (fun W => W.cell? ⟨p, 290, none⟩ = some (.int .i64 (qs.length : Int)) ∧ W.cell? ⟨w.heap.size, 0, none⟩ = some (Sv y.to) ∧ W.cell? ⟨w.heap.size, 1, none⟩ = some (Sv y.q.x.fr) ∧ W.cell? ⟨w.heap.size, 2, none⟩ = some (.int .u64 (y.q.x.ser : Int)) ∧ W.cell? ⟨w.heap.size, 3, none⟩ = some (.int .i64 y.q.x.kind) ∧ W.cell? ⟨w.heap.size, 4, none⟩ = some (.slice y.q.ad y.q.x.args.length y.q.cap)) (first | with_reducible exact ⟨c0, b0, b1, b2, b3, b4⟩ | exact HQ.out _ rfl) (fail)
  rw [HE5.out]
  clear e0 e1 e2 e3 e4 i0 i1 i2 i3 i4 hd0 hd1 hd2 hd3 hd4 f0 f1 f2 f3 f4 b0 b1 b2 b3 b4 c0 HQ HE5
  go_wp2_with fail
  go_end0
  exact ⟨rfl, HR.out⟩
set_option maxHeartbeats 1000000 in
theorem new11 (own : List UInt8) (h : isKey own = true) : Calls Tryz.prog 56 #[Sv own] w fun e w' => ∃ p, e = .returned (.tuple #[.pointer (some ⟨p, 0, none⟩), .int .i64 0]) ∧ IsO w' p own [] [] ∧ Kept [] w w' ∧ w.heap.size ≤ p := by
  have hl := (isKey_iff own).1 h
  have HK := Hid.mk (isKey26 (w := w) own (by omega))
  rw [h] at HK
  have HN : Hid (∀ W : World, IsO (W.alloc (.cells (zeroO own).toArray 168)) W.heap.size own [] []) := fun W => IsO.new own W
  have HC := Hid.mk (clone32 (w := w) own (by omega))
  clear h hl
  go_enter Tryz.func56, Tryz.ntmps56
  go_wp2_with fail
  refine HK.out.mono ?_
  rintro e w1 ⟨rfl, rfl⟩
  go_wp2_with fail
  refine HC.out.mono ?_
  rintro e w1 ⟨rfl, k1⟩
  go_wp2_with fail
  rw [zeroC63]
  go_ret2
  exact ⟨_, rfl, HN.out w1, k1.alloc _, k1.size⟩
end
end Go.Proofs.YtngnenbidpojeaaGreatDoor
