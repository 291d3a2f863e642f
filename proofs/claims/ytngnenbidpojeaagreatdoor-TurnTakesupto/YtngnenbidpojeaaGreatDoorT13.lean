import Derived.Lib.MinMax
import Derived.Shelf.Abstract
import Derived.Deep.Slices
import Derived.ChangeArms
import Derived.OpenShut
import Derived.SizedLaws
import Derived.Deep.RegionLaw
import Derived.Test.YtngnenbidpojeaaGreatDoorT04
import Derived.Test.YtngnenbidpojeaaGreatDoorT09
import Derived.Test.YtngnenbidpojeaaGreatDoorT12
/-
 push of a journal.
-/
namespace Go.Proofs.YtngnenbidpojeaaGreatDoor
set_option maxRecDepth 100000
open Go.RowKit
set_option linter.unusedVariables false
theorem cells2 {w : World} {b : Nat} {v0 v1 : Value} {t : TypeId} (h : w.heap[b]? = some (.cells #[v0, v1] t (0, 0))) : w.cell? ⟨b, 0, none⟩ = some v0 ∧ w.cell? ⟨b, 1, none⟩ = some v1 := cell_of_two h
theorem slice35w (p : Nat) (W : World) : (Instr.sliceAt 175 (.pointer (some ⟨p, 8, none⟩)) none none none).run Tryz.prog W = .ok (.slice (some ⟨p, 8, none⟩) 16 16) W := by
 kernel_rfl
theorem slice35l (p : Nat) (W : World) : (Instr.sliceAt 175 (.pointer (some ⟨p, 8, none⟩)) (some (.int .i64 1)) none none).run Tryz.prog W = .ok (.slice (some ⟨p, 10, none⟩) 15 15) W := by
 have ht : Tryz.prog.underlying 175 = some (.array (Tryz.prog.arrayLen 175) (Tryz.prog.elem 175)) := by kernel_rfl
 have h64 : Tryz.prog.arrayLen 175 = 16 := by kernel_rfl
 have he : Tryz.prog.elem 175 = 92 := by kernel_rfl
 have hs : (sizeOf 92).run Tryz.prog W = .ok 2 W := by kernel_rfl
 rw [run_sliceAt_array_l W 175 ⟨p, 8, none⟩ ht .i64 1 (by omega) (by rw [h64]; omega), he, hs, Result.andThen_ok, slicedAt, h64, add_at]
 rfl
section
variable {w : World} {p : Nat} {j : Jn}
theorem lay_last {W : World} {A : List Int} {E : List Ep} {n v b : Nat} (h : IsP W p A E (n : Int) v) (hn : n < 16) (e : Ep) (hb : W.heap[b]? = some (.cells #[Iv e.1, Iv e.2] 92 (0, 0))) (hbp : b ≠ p) :
  (∃ d0 d1, W.cell? ⟨p, 8 + n * 2, none⟩ = some d0 ∧ W.cell? ⟨p, 8 + n * 2 + 1, none⟩ = some d1 ∧ W.frozen? ⟨p, 8 + n * 2, none⟩ = false ∧ W.frozen? ⟨p, 8 + n * 2 + 1, none⟩ = false) ∧
  (W.cell? ⟨p, 40, none⟩ = some (Iv (n : Int)) ∧ W.cell? ⟨b, 0, none⟩ = some (Iv e.1) ∧ W.cell? ⟨b, 1, none⟩ = some (Iv e.2)) ∧
  ∃ W1, (W.setCell ⟨p, 8 + n * 2, none⟩ (Iv e.1)).setCell ⟨p, 8 + n * 2 + 1, none⟩ (Iv e.2) = W1 ∧ (W1.cell? ⟨p, 40, none⟩ = some (Iv (n : Int)) ∧ W1.cell? ⟨b, 0, none⟩ = some (Iv e.1) ∧ W1.cell? ⟨b, 1, none⟩ = some (Iv e.2)) ∧ W1.frozen? ⟨p, 40, none⟩ = false ∧
   IsP (W1.setCell ⟨p, 40, none⟩ (Iv ((n : Int) + 1))) p A (E.set n e) ((n : Int) + 1) v ∧ Kept [p] W (W1.setCell ⟨p, 40, none⟩ (Iv ((n : Int) + 1))) := by
 obtain ⟨q, hq⟩ : ∃ q, E[n]? = some q := ⟨_, List.getElem?_eq_getElem (by rw [h.e16]; exact hn)⟩
 have hc := h.cellE hq
 have h1 := h.setE hn e
 have k1 : Kept [p] W ((W.setCell ⟨p, 8 + n * 2, none⟩ (Iv e.1)).setCell ⟨p, 8 + n * 2 + 1, none⟩ (Iv e.2)) := ((Kept.refl [p] W).setCell (p := ⟨p, 8 + n * 2, none⟩) (.inl (by simp)) _).setCell (p := ⟨p, 8 + n * 2 + 1, none⟩) (.inl (by simp)) _
 have hb1 := k1.keeps hb (by simpa using hbp)
 exact ⟨⟨_, _, hc.1, hc.2, h.free _, h.free _⟩, ⟨h.count, cells2 hb⟩, _, rfl, ⟨h1.count, cells2 hb1⟩, h1.free _, h1.setn _, k1.setCell (p := ⟨p, 40, none⟩) (.inl (by simp)) _⟩
set_option maxHeartbeats 2000000 in
theorem push28_few (h : IsJ w p j) (hl : j.ev.length < 16) (e : Ev) : Calls Tryz.prog 90 #[.pointer (some ⟨p, 0, none⟩), Vv (ofE e)] w fun x w' => x = .returned (.tuple #[]) ∧ IsJ w' p (pushJ j e) ∧ Kept [p] w w' := by
 rw [pushJ_few hl]
 show Calls Tryz.prog 90 #[.pointer (some ⟨p, 0, none⟩), .agg #[Iv (e.r : Int), Iv e.v]] w _
 obtain ⟨W0, e0, k0, hz0, hb0⟩ := box1 w (.cells #[Iv (e.r : Int), Iv e.v] 92)
 have hpl := h.lt
 have h0 := (h.kept0 k0).isP
 have hc0 := h0.count
 obtain ⟨⟨d0, d1, c0, c1, f0, f1⟩, S0, W1, e1, S1, fz, h2, k2⟩ := lay_last h0 hl (ofE e) hb0 (by omega)
 have c0' : W0.drew.cell? ⟨p, 8 + j.ev.length * 2, none⟩ = some d0 := c0
 have c1' : W0.drew.cell? ⟨p, 8 + j.ev.length * 2 + 1, none⟩ = some d1 := c1
 have f0' : W0.drew.frozen? ⟨p, 8 + j.ev.length * 2, none⟩ = false := f0
 have f1' : W0.drew.frozen? ⟨p, 8 + j.ev.length * 2 + 1, none⟩ = false := f1
 have HQ : Hid (∀ V, V = (W0.setCell ⟨p, 8 + j.ev.length * 2, none⟩ (Iv (e.r : Int))).setCell ⟨p, 8 + j.ev.length * 2 + 1, none⟩ (Iv e.v) → V.drew.cell? ⟨p, 40, none⟩ = some (Iv (j.ev.length : Int)) ∧ V.drew.cell? ⟨w.heap.size, 0, none⟩ = some (Iv (e.r : Int)) ∧ V.drew.cell? ⟨w.heap.size, 1, none⟩ = some (Iv e.v)) := fun V hV => by
  have hV' : V = W1 := hV.trans e1
  subst hV'
  exact S1
 have HE1 := Hid.mk e1
 have cn := S1.1
 have HR : Hid (IsJ (W1.setCell ⟨p, 40, none⟩ (Iv ((j.ev.length : Int) + 1))).drew p ⟨j.base, j.ev ++ [e], j.ver⟩ ∧ Kept [p] w (W1.setCell ⟨p, 40, none⟩ (Iv ((j.ev.length : Int) + 1))).drew) := by
  refine ⟨IsJ.kept0 ⟨?_, by simp; omega⟩ (Kept.refl [] _).drew, ((k0.mono (by simp)).trans k2 (by simp)).drew⟩
  rw [padE_more hl] at h2
  rw [List.length_append, List.length_singleton]
  exact h2
 have q0 : ((j.ev.length : Int) == 16) = false := by simpa using (by omega : ¬ (j.ev.length : Int) = 16)
 have q1 : (j.ev.length : Int) < 16 := by omega
 have q2 : (0 : Int) ≤ (j.ev.length : Int) := by omega
 have q3 : ¬ (j.ev.length : Int) = 16 := by omega
 have S0' : W0.drew.cell? ⟨p, 40, none⟩ = some (Iv (j.ev.length : Int)) ∧ W0.drew.cell? ⟨w.heap.size, 0, none⟩ = some (Iv (e.r : Int)) ∧ W0.drew.cell? ⟨w.heap.size, 1, none⟩ = some (Iv e.v) := S0
 dsimp only [ofE] at *
 clear h h0 k0 hz0 hb0 hl h2 k2 e1 S1 S0
 generalize j.ev.length = n at *
 go_enter Tryz.func90, Tryz.ntmps90
 go_wp2_with fail
 go_region_held3 (fun V => V.cell? ⟨p, 40, none⟩ = some (Iv (n : Int)) ∧ V.cell? ⟨w.heap.size, 0, none⟩ = some (Iv (e.r : Int)) ∧ V.cell? ⟨w.heap.size, 1, none⟩ = some (Iv e.v)) (first | with_reducible exact S0' | exact HQ.out _ rfl) (fail)
 rw [HE1.out]
 clear HQ c0 c1 f0 f1 c0' c1' f0' f1' S0' HE1 e0 hc0
 go_wp2_with fail
 go_end0
 exact ⟨rfl, HR.out⟩
set_option maxHeartbeats 4000000 in
theorem push28_full (h : IsJ w p j) (hr : RegJ j) (hl : j.ev.length = 16) (e : Ev) : Calls Tryz.prog 90 #[.pointer (some ⟨p, 0, none⟩), Vv (ofE e)] w fun x w' => x = .returned (.tuple #[]) ∧ IsJ w' p (pushJ j e) ∧ Kept [p] w w' := by
 obtain ⟨y, t, hyt⟩ : ∃ y t, j.ev = y :: t := by
  cases hx : j.ev with
  | nil => rw [hx] at hl; simp at hl
  | cons y t => exact ⟨y, t, rfl⟩
 rw [pushJ_full hyt hl]
 show Calls Tryz.prog 90 #[.pointer (some ⟨p, 0, none⟩), .agg #[Iv (e.r : Int), Iv e.v]] w _
 obtain ⟨W0, e0, k0, hz0, hb0⟩ := box1 w (.cells #[Iv (e.r : Int), Iv e.v] 92)
 have hpl := h.lt
 have h0 := (h.kept0 k0).isP
 have hc0 := h0.count
 rw [hl] at hc0
 obtain ⟨y0, y1⟩ := (h.kept0 k0).at (k := 0) (e := y) (by rw [hyt]; rfl)
 rw [Nat.zero_mul, Nat.add_zero] at y0 y1
 have hy7 := hr y (by rw [hyt]; simp)
 obtain ⟨W1, e1, k1, hz1, hb1⟩ := box1 W0 (.cells #[Iv (y.r : Int), Iv y.v] 92)
 have h1 := h0.kept0 k1
 have hzz : W0.heap.size = w.heap.size + 1 := hz0
 obtain ⟨x0, hx0⟩ : ∃ x, j.base[y.r]? = some x := ⟨_, List.getElem?_eq_getElem (by rw [h0.a8]; omega)⟩
 have c0 := h1.cellA hx0
 have f0 := h1.free y.r
 have c0' : W1.drew.cell? ⟨p, y.r, none⟩ = some (Iv x0) := c0
 have f0' : W1.drew.frozen? ⟨p, y.r, none⟩ = false := f0
 have S0 : W1.drew.cell? ⟨W0.heap.size, 0, none⟩ = some (Iv (y.r : Int)) ∧ W1.drew.cell? ⟨W0.heap.size, 1, none⟩ = some (Iv y.v) := cells2 hb1
 have k2 : Kept [p] W1 (W1.setCell ⟨p, y.r, none⟩ (Iv y.v)) := (Kept.refl [p] W1).setCell (p := ⟨p, y.r, none⟩) (.inl (by simp)) _
 have HQ : Hid ((W1.setCell ⟨p, y.r, none⟩ (Iv y.v)).drew.cell? ⟨W0.heap.size, 0, none⟩ = some (Iv (y.r : Int)) ∧ (W1.setCell ⟨p, y.r, none⟩ (Iv y.v)).drew.cell? ⟨W0.heap.size, 1, none⟩ = some (Iv y.v)) := cells2 (k2.drew.keeps hb1 (by simp; omega))
 have H2 : Hid (IsP (W1.setCell ⟨p, y.r, none⟩ (Iv y.v)).drew p (doE j.base y) (padE j.ev) 16 j.ver ∧ Kept [p] w (W1.setCell ⟨p, y.r, none⟩ (Iv y.v)).drew ∧ (W1.setCell ⟨p, y.r, none⟩ (Iv y.v)).drew.heap[w.heap.size]? = some (.cells #[Iv (e.r : Int), Iv e.v] 92 (0, 0))) := by
  have := h1.setA (i := y.r) (by omega) y.v
  rw [hl] at this
  exact ⟨this.kept0 (Kept.refl [] _).drew, (((k0.trans k1 (by simp)).mono (by simp)).trans k2 (by simp)).drew, k2.drew.keeps (k1.keeps hb0 (by simp)) (by simp; omega)⟩
 have r0 : (0 : Int) ≤ (y.r : Int) := by omega
 have r1 : (y.r : Int) < 8 := by omega
 clear h h0 h1 k0 k1 k2 hb0 hb1 hz0 hz1 hr hzz hx0
 go_enter Tryz.func90, Tryz.ntmps90
 go_wp2_with fail
 go_region_held3 (fun V => V.cell? ⟨W0.heap.size, 0, none⟩ = some (Iv (y.r : Int)) ∧ V.cell? ⟨W0.heap.size, 1, none⟩ = some (Iv y.v)) (first | with_reducible exact S0 | exact HQ.out) (fail)
 generalize (W1.setCell ⟨p, y.r, none⟩ (Iv y.v)).drew = W2 at *
 clear S0 c0 f0 c0' f0' HQ r0 r1 e0 e1 y0 y1 hc0
 obtain ⟨h2, k2, hb2⟩ := H2.out
 have hd2 := h2.kept0 (Kept.refl [] W2).drew
 obtain ⟨r3, W3, hrun, k3, x3, h3⟩ := hd2.mv
 have hsl1 := slice35w p
 have hsl2 := slice35l p
 have hb3 := k3.keeps (w := W2.drew) hb2 (by simp; omega)
 have hc3 := h3.count
 have fz3 := h3.free 40
 have k03 : Kept [p] w W3 := k2.drew.trans k3 (by simp)
 have h4 := h3.setn 15
 have k4 : Kept [p] w (W3.setCell ⟨p, 40, none⟩ (Iv 15)) := k03.setCell (p := ⟨p, 40, none⟩) (.inl (by simp)) _
 have hb4 : (W3.setCell ⟨p, 40, none⟩ (Iv 15)).heap[w.heap.size]? = some (.cells #[Iv (e.r : Int), Iv e.v] 92 (0, 0)) := ((Kept.refl [p] W3).setCell (p := ⟨p, 40, none⟩) (.inl (by simp)) _).keeps hb3 (by simp; omega)
 have H4 : Hid (IsP (W3.setCell ⟨p, 40, none⟩ (Iv 15)) p (doE j.base y) ((padE j.ev).drop 1 ++ [x3]) 15 j.ver ∧ Kept [p] w (W3.setCell ⟨p, 40, none⟩ (Iv 15)) ∧ (W3.setCell ⟨p, 40, none⟩ (Iv 15)).heap[w.heap.size]? = some (.cells #[Iv (e.r : Int), Iv e.v] 92 (0, 0))) := ⟨h4, k4, hb4⟩
 clear h2 k2 hb2 hd2 h3 k3 hb3 k03 h4 k4 hb4 H2
 go_wp2_with fail
 go_region_held3 (fun V => True) (trivial) (first | (refine step_copy_run 90 90 (.tmp 26) (.tmp 30) (by rfl) (by rfl) _ _ (by rfl) (by rfl) hrun ?_))
 clear hsl1 hsl2 hrun
 go_wp2_with fail
 generalize W3.setCell ⟨p, 40, none⟩ (Iv 15) = W4 at *
 obtain ⟨h4, k4, hb4⟩ := H4.out
 obtain ⟨⟨d0, d1, c0, c1, f0, f1⟩, S0, W5, e5, S5, fz, h6, k6⟩ := lay_last (n := 15) h4 (by omega) (ofE e) hb4 (by omega)
 dsimp only [ofE] at *
 have HR : Hid (IsJ (W5.setCell ⟨p, 40, none⟩ (Iv 16)).drew p ⟨doE j.base y, t ++ [e], j.ver⟩ ∧ Kept [p] w (W5.setCell ⟨p, 40, none⟩ (Iv 16)).drew) := by
  have ht : t.length = 15 := by rw [hyt] at hl; simpa using hl
  have hE : (List.drop 1 (padE j.ev) ++ [x3]).set 15 ((e.r : Int), e.v) = padE (t ++ [e]) := by
   rw [padE_full hl, padE_full (by simp [ht]), hyt, List.map_cons, List.drop_one, List.tail_cons, List.set_append_right _ _ (by rw [List.length_map, ht]; exact Nat.le_refl _), List.length_map, ht, List.map_append]
   rfl
  rw [hE] at h6
  refine ⟨IsJ.kept0 ⟨?_, by simp [ht]⟩ (Kept.refl [] _).drew, (k4.trans k6 (by simp)).drew⟩
  rw [List.length_append, ht]
  exact h6
 have g0 : W4.cell? ⟨p, 38, none⟩ = some d0 := c0
 have g1 : W4.cell? ⟨p, 39, none⟩ = some d1 := c1
 have g2 : W4.frozen? ⟨p, 38, none⟩ = false := f0
 have g3 : W4.frozen? ⟨p, 39, none⟩ = false := f1
 have c0' : W4.drew.cell? ⟨p, 38, none⟩ = some d0 := c0
 have c1' : W4.drew.cell? ⟨p, 39, none⟩ = some d1 := c1
 have f0' : W4.drew.frozen? ⟨p, 38, none⟩ = false := f0
 have f1' : W4.drew.frozen? ⟨p, 39, none⟩ = false := f1
 have S0' : W4.drew.cell? ⟨p, 40, none⟩ = some (Iv 15) ∧ W4.drew.cell? ⟨w.heap.size, 0, none⟩ = some (Iv (e.r : Int)) ∧ W4.drew.cell? ⟨w.heap.size, 1, none⟩ = some (Iv e.v) := S0
 have HE5 : Hid ((W4.setCell ⟨p, 38, none⟩ (Iv (e.r : Int))).setCell ⟨p, 39, none⟩ (Iv e.v) = W5) := e5
 have HQ : Hid (∀ V, V = (W4.setCell ⟨p, 38, none⟩ (Iv (e.r : Int))).setCell ⟨p, 39, none⟩ (Iv e.v) → V.drew.cell? ⟨p, 40, none⟩ = some (Iv 15) ∧ V.drew.cell? ⟨w.heap.size, 0, none⟩ = some (Iv (e.r : Int)) ∧ V.drew.cell? ⟨w.heap.size, 1, none⟩ = some (Iv e.v)) := fun V hV => by
  have hV' : V = W5 := hV.trans e5
  subst hV'
  exact S5
 have cn : W5.cell? ⟨p, 40, none⟩ = some (Iv 15) := S5.1
 clear h4 k4 hb4 h6 k6 H4 c0 c1 f0 f1 e5 S5 S0
 go_region_held3 (fun V => V.cell? ⟨p, 40, none⟩ = some (Iv 15) ∧ V.cell? ⟨w.heap.size, 0, none⟩ = some (Iv (e.r : Int)) ∧ V.cell? ⟨w.heap.size, 1, none⟩ = some (Iv e.v)) (first | with_reducible exact S0' | exact HQ.out _ rfl) (fail)
 rw [HE5.out]
 clear HQ g0 g1 g2 g3 c0' c1' f0' f1' S0' HE5
 go_wp2_with fail
 go_end0
 exact ⟨rfl, HR.out⟩
theorem push28 (h : IsJ w p j) (hr : RegJ j) (e : Ev) : Calls Tryz.prog 90 #[.pointer (some ⟨p, 0, none⟩), Vv (ofE e)] w fun x w' => x = .returned (.tuple #[]) ∧ IsJ w' p (pushJ j e) ∧ Kept [p] w w' := by
 by_cases hl : j.ev.length < 16
 ·exact push28_few h hl e
 ·exact push28_full h hr (by have := h.len; omega) e
end
def badE (e : Ep) : Bool := decide (e.1 < 0) || decide (8 ≤ e.1)
theorem badE_no {e : Ep} (h : badE e = false) : 0 ≤ e.1 ∧ e.1 < 8 := by
 simp [badE] at h
 omega
def addC (l : List Ep) : Int := if l.any badE = true then 3 else 0
def addR (j : Jn) (l : List Ep) : Jn := if l.any badE = true then j else addA j (l.map toE)
theorem any_idx (l : List Ep) : l.any badE = decide (l.findIdx badE < l.length) := by
 rw [Bool.eq_iff_iff, decide_eq_true_eq, List.findIdx_lt_length, List.any_eq_true]
def fE (l : List Ep) : Int := if l.findIdx badE < l.length then (l.findIdx badE : Int) else -1
section
variable {w : World} {p : Nat} {j : Jn}
set_option maxHeartbeats 1000000 in
theorem out27 (e : Ep) : Calls Tryz.prog 89 #[Vv e] w fun x w' => x = .returned (.bool (badE e)) ∧ Kept [] w w' := by
 obtain ⟨r, v⟩ := e
 show Calls Tryz.prog 89 #[.agg #[Iv r, Iv v]] w _
 have k0 : Kept [] w (w.alloc (.cells #[Iv r, Iv v] 92)) := (Kept.refl [] w).alloc _
 unfold badE
 dsimp only
 by_cases h1 : r < 0
 ·rw [decide_eq_true h1, Bool.true_or]
  go_enter Tryz.func89, Tryz.ntmps89
  go_wp2_with fail
  go_ret
  exact ⟨rfl, k0⟩
 ·rw [decide_eq_false h1, Bool.false_or]
  go_enter Tryz.func89, Tryz.ntmps89
  go_wp2_with fail
  go_ret
  exact ⟨rfl, k0⟩
set_option maxHeartbeats 1000000 in
theorem index46 {v : Value} {l : List Ep} (hR : ReadsR 2 w v (CE l)) (hl : l.length ≤ 1000000) : Calls Tryz.prog 121 #[v, .func (.func 89) #[] #[]] w fun e w' => e = .returned (Iv (fE l)) ∧ Kept [] w w' := by
 have eg : ∀ args w, (callFunc 89 args).run Tryz.prog w = .ok (.enter 89 args) w := enters_of Tryz.func89 (by kernel_rfl) rfl
 obtain ⟨a, c, rfl, hc1, hc2⟩ := rowE_form hR
 obtain ⟨R, hRR⟩ : ∃ R, Hid (fE l = R) := ⟨_, rfl⟩
 rw [hRR.out]
 have hle := List.findIdx_le_length (p := badE) (xs := l)
 obtain ⟨P, hP⟩ : ∃ P, Hid (l.findIdx badE = P) := ⟨_, rfl⟩
 rw [hP.out] at hle
 have HW := Hid.mk hR
 clear hR
 generalize hnn : l.length = n at *
 have HN := Hid.mk hnn
 clear hnn
 go_enter Tryz.func121, Tryz.ntmps121
 go_wp2_with fail
 go_loopw [8] (fun i wr => ∃ k : Nat, Hid (Kept [] w wr) ∧ i = .int .i64 (k : Int) ∧ k ≤ P) (fun i _ => n - (intOf i).toNat)
 case atStart => exact ⟨0, Hid.mk (Kept.refl [] w), rfl, by omega⟩
 case round =>
  obtain ⟨k, kk, rfl, hk⟩ := hrel
  by_cases hlt : k < n
  ·have hkl : k < l.length := by have := HN.out; omega
   obtain ⟨x, hx⟩ : ∃ x, l[k]? = some x := ⟨_, List.getElem?_eq_getElem hkl⟩
   obtain ⟨b, o, rfl, d0, d1⟩ := rowE_at (ReadsR.kept HW.out kk.out (by simp)) hx
   have hcc := out27 (w := wr) x
   have hjI : (k : Int) < (n : Int) := by omega
   have hxe : l[k]'hkl = x := (List.getElem?_eq_some_iff.1 hx).2
   by_cases hkP : k < P
   ·have hs : badE x = false := by
     have := List.not_of_lt_findIdx (p := badE) (xs := l) (i := k) (by rw [hP.out]; exact hkP)
     rw [hxe] at this
     simpa using this
    rw [hs] at hcc
    have HC := Hid.mk hcc
    clear hcc hx hs hxe
    go_wp2_with (go_at_fn 89; refine HC.out.mono ?_; rintro e w' ⟨rfl, k1⟩; have HK := Hid.mk (kk.out.trans k1 (by simp)); clear k1)
    go_roundw
    case rel => exact ⟨k + 1, HK, by go_num, by omega⟩
    case measure => simp [intOf]; omega
   ·obtain rfl : k = P := by omega
    have hs : badE x = true := by
     have h1 := List.findIdx_getElem (p := badE) (xs := l) (w := by rw [hP.out]; exact hkl)
     have h2 : l[l.findIdx badE]'(by rw [hP.out]; exact hkl) = x := by
      have : l[l.findIdx badE]? = some x := by rw [hP.out]; exact hx
      exact (List.getElem?_eq_some_iff.1 this).2
     rw [h2] at h1
     exact h1
    rw [hs] at hcc
    have HC := Hid.mk hcc
    have e : R = (k : Int) := by
     rw [← hRR.out, fE, if_pos (by rw [hP.out, HN.out]; exact hlt), hP.out]
    subst e
    clear hcc hx hs hxe
    go_wp2_with (go_at_fn 89; refine HC.out.mono ?_; rintro e w' ⟨rfl, k1⟩; have HK := Hid.mk (kk.out.trans k1 (by simp)); clear k1)
    go_ret
    exact ⟨rfl, HK.out⟩
  ·have e : R = -1 := by
    rw [← hRR.out, fE, if_neg (by rw [hP.out, HN.out]; omega)]
   subst e
   go_wp2_with fail
   go_ret
   exact ⟨rfl, kk.out⟩
theorem contains26 {v : Value} {l : List Ep} (hR : ReadsR 2 w v (CE l)) (hl : l.length ≤ 1000000) : Calls Tryz.prog 88 #[v, .func (.func 89) #[] #[]] w fun e w' => e = .returned (.bool (l.any badE)) ∧ Kept [] w w' := by
 have HC := Hid.mk (index46 hR hl)
 have hq : decide (0 ≤ fE l) = l.any badE := by
  rw [any_idx, fE]
  split <;> simp [*]
 have HQ := Hid.mk hq
 clear hR hq
 generalize fE l = f at *
 go_enter Tryz.func88, Tryz.ntmps88
 go_wp2_with fail
 refine HC.out.mono ?_
 rintro e w1 ⟨rfl, k1⟩
 go_wp2_with fail
 go_ret
 exact ⟨by rw [← HQ.out]; rfl, k1⟩
end
section
variable {w : World} {p : Nat} {j : Jn}
set_option maxHeartbeats 2000000 in
theorem add12 {v : Value} {l : List Ep} (h : IsJ w p j) (hr : RegJ j) (hR : ∀ W, Kept [p] w W → ReadsR 2 W v (CE l)) (hl : l.length ≤ 1000000) (hv : j.ver + l.length < 18446744073709551616) : Calls Tryz.prog 28 #[.pointer (some ⟨p, 0, none⟩), v] w fun e w' => e = .returned (Iv (addC l)) ∧ IsJ w' p (addR j l) ∧ Kept [p] w w' := by
 have HC := Hid.mk (contains26 (hR w (Kept.refl _ _)) hl)
 obtain ⟨a, c, rfl, hc1, hc2⟩ := rowE_form (hR w (Kept.refl _ _))
 have HJ := Hid.mk h
 have HR := Hid.mk hR
 have hpl := h.lt
 unfold addC addR
 clear h hR
 cases ha : l.any badE with
 | true =>
  rw [ha] at HC
  rw [if_pos rfl, if_pos rfl]
  go_enter Tryz.func28, Tryz.ntmps28
  go_wp2_with fail
  refine HC.out.mono ?_
  rintro e w1 ⟨rfl, k1⟩
  go_wp2_with fail
  go_ret
  exact ⟨rfl, HJ.out.kept0 k1, k1.mono (by simp)⟩
 | false =>
  rw [ha] at HC
  rw [if_neg (by simp), if_neg (by simp)]
  have HG : Hid (∀ (k : Nat) (y : Ep), l[k]? = some y → 0 ≤ y.1 ∧ y.1 < 8) := fun k y hy => badE_no (by
   rw [List.any_eq_false] at ha
   simpa using ha y (List.mem_of_getElem? hy))
  clear ha
  generalize hn : l.length = n at *
  have HN := Hid.mk hn
  clear hn
  go_enter Tryz.func28, Tryz.ntmps28
  go_wp2_with fail
  refine HC.out.mono ?_
  rintro e w1 ⟨rfl, k1⟩
  have HK1 := Hid.mk k1
  clear k1
  go_wp2_with fail
  go_loopw [15] (fun i wr => ∃ k : Nat, i = .int .i64 (k : Int) ∧ k ≤ n ∧ Hid (IsJ wr p (pushA j ((l.take k).map toE)) ∧ RegJ (pushA j ((l.take k).map toE)) ∧ Kept [p] w wr)) (fun i _ => n - (intOf i).toNat)
  case atStart => exact ⟨0, rfl, by omega, Hid.mk ⟨HJ.out.kept0 HK1.out, hr, HK1.out.mono (by simp)⟩⟩
  case round =>
   obtain ⟨k, rfl, hk, H⟩ := hrel
   by_cases hlt : k < n
   ·obtain ⟨y, hy⟩ : ∃ y, l[k]? = some y := ⟨_, List.getElem?_eq_getElem (by have := HN.out; omega)⟩
    obtain ⟨b, o, rfl, d0, d1⟩ := rowE_at (HR.out wr H.out.2.2) hy
    obtain ⟨y0, y8⟩ := HG.out k y hy
    have hjI : (k : Int) < (n : Int) := by omega
    obtain ⟨W1, e1, k1, hz1, hb1⟩ := box1 wr (.cells #[Iv y.1, Iv y.2] 92)
    have HP := Hid.mk (push28 (H.out.1.kept0 k1) H.out.2.1 (toE y))
    rw [ofE_toE y0] at HP
    have he : pushA j ((l.take (k + 1)).map toE) = pushJ (pushA j ((l.take k).map toE)) (toE y) := by
     rw [List.take_add_one, hy, List.map_append, pushA, List.foldl_append]
     rfl
    have HT : Hid (∀ w', IsJ w' p (pushJ (pushA j ((l.take k).map toE)) (toE y)) → Kept [p] W1 w' → IsJ w' p (pushA j ((l.take (k + 1)).map toE)) ∧ RegJ (pushA j ((l.take (k + 1)).map toE)) ∧ Kept [p] w w') := fun w' h1 h2 => by
     rw [he]
     exact ⟨h1, H.out.2.1.push (by show y.1.toNat ≤ 7; omega), (H.out.2.2.trans k1 (by simp)).trans h2 (by simp)⟩
    obtain ⟨c0, c1⟩ := cells2 hb1
    clear hy he H hb1 k1 hz1
    go_wp2_with fail
    refine HP.out.mono ?_
    rintro e w' ⟨rfl, h1, k1⟩
    have HT1 := Hid.mk (HT.out w' h1 k1)
    clear h1 k1 c0 c1 d0 d1 HT HP e1
    go_wp2_with fail
    go_roundw
    case rel => exact ⟨k + 1, by go_num, by omega, HT1⟩
    case measure => simp [intOf]; omega
   ·obtain rfl : k = n := by omega
    have hP := H.out.1
    have hE := addA_eq j (l.map toE)
    rw [List.take_of_length_le (by rw [HN.out]; exact Nat.le_refl _)] at hP
    rw [List.length_map, HN.out] at hE
    have hpv : (pushA j (l.map toE)).ver = j.ver := by rw [pushA_eq]
    have hver := hP.isP.ver
    rw [hpv] at hver
    have S0 : wr.drew.cell? ⟨p, 41, none⟩ = some (Uv j.ver) := hver
    have fz := hP.isP.free 41
    have fz' : wr.drew.frozen? ⟨p, 41, none⟩ = false := fz
    have HF : Hid (IsJ (wr.setCell ⟨p, 41, none⟩ (.int .u64 ((j.ver : Int) + (k : Int)))).drew p (addA j (l.map toE)) ∧ Kept [p] w (wr.setCell ⟨p, 41, none⟩ (.int .u64 ((j.ver : Int) + (k : Int)))).drew) := by
     rw [hE]
     have h2 := hP.isP.setv (j.ver + k)
     have ev : Uv (j.ver + k) = .int .u64 ((j.ver : Int) + (k : Int)) := by rw [← Int.natCast_add]
     rw [ev] at h2
     exact ⟨IsJ.kept0 ⟨h2, hP.len⟩ (Kept.refl [] _).drew, (H.out.2.2.setCell (p := ⟨p, 41, none⟩) (.inl (by simp)) _).drew⟩
    have q1 : IntKind.u64.wrap (k : Int) = (k : Int) := by rw [IntKind.wrap_u64]; omega
    have q2 : IntKind.u64.wrap (18446744073709551615 - (j.ver : Int)) = 18446744073709551615 - (j.ver : Int) := by rw [IntKind.wrap_u64]; omega
    have q3 : min (k : Int) (18446744073709551615 - (j.ver : Int)) = (k : Int) := by omega
    have q4 : IntKind.u64.wrap ((j.ver : Int) + (k : Int)) = (j.ver : Int) + (k : Int) := by rw [IntKind.wrap_u64]; omega
    clear H hP hE hpv
    generalize j.ver = v at *
    go_wp2_with fail
    go_region
    go_wp2_with fail
    go_ret
    exact ⟨rfl, HF.out⟩
end
end Go.Proofs.YtngnenbidpojeaaGreatDoor
namespace Go.Proofs.YtngnenbidpojeaaGreatDoor
set_option maxRecDepth 100000
open Go.RowKit Go.Deep Go.ChangeShapes
set_option linter.unusedVariables false
theorem addr_add_add (a : Addr) (i j : Nat) : (a.add i).add j = a.add (i + j) := by
 obtain ⟨b, o, s⟩ := a
 unfold Addr.add
 by_cases hi : i = 0
 ·by_cases hj : j = 0
  ·simp [hi, hj]
  ·simp [hi, hj]
 ·by_cases hj : j = 0
  ·simp [hi, hj]
  ·simp [hi, hj, Nat.add_assoc]
theorem readsJ_of_row (W : World) (x : Addr) (zs : List Int) {len cap : Nat} (hl : len ≤ cap) (hm : cap ≤ maxLen) (hz : zs.length = cap) (hcell : ∀ i, i < zs.length → W.cell? (x.add i) = some (.int .i64 (zs.getD i 0))) (hwz : ∀ n ∈ zs, (Lit.int .i64 n).wf = true) :
  ∃ l, ReadsJ W (.slice (some x) len cap) l ∧ (∀ z ∈ l, I64 z) ∧ l.length = len := by
 have hlen : (zs.take len).length = len := by rw [List.length_take]; omega
 refine ⟨zs.take len, ⟨some x, cap, by rw [CJ_length, hlen], by rw [CJ_length]; omega, hm, by simp, fun hne => ?_⟩, fun z hz => bounds_i64 (hwz z (List.mem_of_mem_take hz)), hlen⟩
 have hpos : 0 < len := by
  rcases Nat.eq_zero_or_pos len with h | h
  ·subst h; simp [CJ] at hne
  ·exact h
 obtain ⟨b, o, spot⟩ := x
 have hc := hcell 0 (by omega)
 have hspot : spot = none := by simpa [Addr.add] using World.cell?_spot hc
 subst hspot
 refine ⟨b, o, rfl, fun j r hr i y hy => ?_⟩
 simp only [CJ, List.getElem?_map, Option.map_eq_some_iff] at hr
 obtain ⟨z, hz1, rfl⟩ := hr
 have hi : i = 0 := by
  have := (List.getElem?_eq_some_iff.1 hy).1
  simp at this
  exact this
 subst hi
 simp at hy
 subst hy
 have hj : j < len := by
  have := (List.getElem?_eq_some_iff.1 hz1).1
  rw [List.length_take] at this; omega
 rw [List.getElem?_take_of_lt hj] at hz1
 have h := hcell j (by omega)
 rw [add_at] at h
 rw [Nat.mul_one, Nat.add_zero, h]
 have hzz : zs.getD j 0 = z := by simp [List.getD, hz1]
 rw [hzz]
def LetsIn (W : World) (v : Value) (l : List Lq) : Prop := RowQ W v l ∧ ValsQ W l ∧ ∀ q ∈ l, q.x.ok
def E64 (e : Ep) : Prop := I64 e.1 ∧ I64 e.2
def EvsIn (W : World) (v : Value) (l : List Ep) : Prop := ReadsR 2 W v (CE l) ∧ ∀ e ∈ l, E64 e
theorem EvsIn.kept {W W' : World} {v : Value} {l : List Ep} (h : EvsIn W v l) (k : Kept [] W W') : EvsIn W' v l := ⟨ReadsR.kept h.1 k (by simp), h.2⟩
theorem open_ev {H : Type} {enc : TypeId × Value → H} {W : World} {fuel : Nat} {cs : List Value} {x : DataW H × List MemPlace} (h : DataW.trod enc Tryz.prog W 0 (fun _ => true) true fuel 93 cs = some x) (hl : cs.length = 2) :
  ∃ e : Ep, cs = cellsE e ∧ E64 e := by
 obtain ⟨xs, k, hk, hxy, _, hxl, hf⟩ := DataW.trod_struct Tryz.underlying93 h
 match xs, hxl, cs, hl with
 | [y0, y1], _, [v0, v1], _ =>
  have g0 := hf 0 _ rfl
  have g1 := hf 1 _ rfl
  simp [show Tryz.prog.cellsOf 3 = 1 by kernel_rfl, show Tryz.prog.cellsOf 2 = 1 by kernel_rfl] at g0 g1
  obtain ⟨a, e0, f0, w0⟩ := DataW.trod_int Tryz.underlying3 g0
  obtain ⟨b, e1, f1, w1⟩ := DataW.trod_int Tryz.underlying2 g1
  simp at e0 e1
  subst e0 e1
  exact ⟨(a, b), rfl, bounds_i64 w0, bounds_i64 w1⟩
theorem open_evs {H : Type} {enc : TypeId × Value → H} {W : World} {fuel : Nat} {cs : List Value} {x : DataW H × List MemPlace} (h : DataW.trod enc Tryz.prog W 0 (fun _ => true) true fuel 27 cs = some x) :
  ∃ v l, cs = [v] ∧ EvsIn W v l := by
 rcases open_slice Tryz.underlying27 h with ⟨h0, hx⟩ | ⟨a, len, cap, m, n, D, Pl, hcs, hb, hl, hm, hmm, hx, hel⟩
 ·exact ⟨_, [], h0, ReadsR.nil 2 W, by simp⟩
 ·have hm' : m = cap := by simpa using hmm
  subst hm'
  have each : ∀ i, i < len → ∃ q : Ep, (∀ j y, (cellsE q)[j]? = some y → W.cell? (a.add (i * 2 + j)) = some y) ∧ E64 q := by
   intro i hi
   obtain ⟨cs', h1, h2⟩ := hel i (by omega)
   rw [show Tryz.prog.cellsOf 93 = 2 by kernel_rfl] at h1
   obtain ⟨_, hlen, hcell⟩ := World.cells?_some h1
   obtain ⟨q, rfl, hk⟩ := open_ev h2 (by simpa using hlen)
   refine ⟨q, fun j y hy => ?_, hk⟩
   have hj := (List.getElem?_eq_some_iff.1 hy).1
   have := hcell j (by simpa [cellsE] using hj)
   rw [addr_add_add] at this
   rw [this]
   simp [hy]
  obtain ⟨f, hfp⟩ := choose_lt each
  have hll : ((List.range len).map f).length = len := by simp
  refine ⟨_, (List.range len).map f, hcs, ⟨some a, m, by rw [CE_length, hll], by rw [CE_length, hll]; omega, hm, by simp, fun hne => ?_⟩, ?_⟩
  ·have hpos : 0 < len := by
    rcases Nat.eq_zero_or_pos len with h | h
    ·subst h; simp [CE] at hne
    ·exact h
   obtain ⟨b, o, spot⟩ := a
   have hc := (hfp 0 (by omega)).1 0 _ rfl
   have hspot : spot = none := by simpa [Addr.add] using World.cell?_spot hc
   subst hspot
   refine ⟨b, o, rfl, fun j r hr i y hy => ?_⟩
   have hr' : ((List.range len).map f).map cellsE = CE ((List.range len).map f) := rfl
   rw [← hr', List.getElem?_map, Option.map_eq_some_iff] at hr
   obtain ⟨p, hp, rfl⟩ := hr
   have hj : j < len := by
    have := (List.getElem?_eq_some_iff.1 hp).1
    simpa using this
   rw [List.getElem?_map, List.getElem?_range hj] at hp
   simp at hp
   subst hp
   have := (hfp j hj).1 i y hy
   rw [add_at] at this
   rw [Nat.add_assoc]
   exact this
  ·intro x hx
   simp only [List.mem_map, List.mem_range] at hx
   obtain ⟨i, hi, rfl⟩ := hx
   exact (hfp i hi).2
section
variable {w : World}
end
end Go.Proofs.YtngnenbidpojeaaGreatDoor
namespace Go.Proofs.YtngnenbidpojeaaGreatDoor
set_option maxRecDepth 100000
open Go.RowKit
set_option linter.unusedVariables false
theorem cellsE_one (y : Ep) : ∀ u ∈ cellsE y, u.oneCell' = true := fun x hx => by
 simp [cellsE] at hx
 rcases hx with rfl | rfl <;> rfl
def OutE (t : TypeId) (w wr : World) (u : Value) (L : List Ep) : Prop := OwnsR t 2 wr u (CE L) ∧ Fresh w u ∧ Kept [] w wr
theorem OutE.nil (t : TypeId) (w : World) : OutE t w w (.slice none 0 0) [] := ⟨OwnsR.nil _ _ _, fresh_nil _ _, Kept.refl [] w⟩
theorem OutE.form {t : TypeId} {w wr : World} {u : Value} {L : List Ep} (h : OutE t w wr u L) : ∃ a c, u = .slice a L.length c := by
 obtain ⟨a, c, e, -⟩ := h.1.form
 rw [CE_length] at e
 exact ⟨a, c, e⟩
theorem OutE.more {T t : TypeId} {b : Nat} {z : Value} (R : RowT T t 2 b z) {w wr : World} {u : Value} {L : List Ep} (h : OutE t w wr u L) (hl : L.length ≤ 900000) (y : Ep) : ∃ ad c w2, (Builtin.append_ #[T, T] T #[u, .slice (some ⟨wr.heap.size, 0, none⟩) 1 1]).run Tryz.prog (wr.alloc (.cells #[Iv y.1, Iv y.2] t)) = .ok (.slice ad (L.length + 1) c) w2 ∧ OutE t w w2 (.slice ad (L.length + 1) c) (L ++ [y]) := by
 obtain ⟨h1, h2, h3⟩ := h
 obtain ⟨ad, c, w2, hrun, hO, k2, hN⟩ := append_rowR R h1 (cellsE y) rfl (cellsE_one y) (by rw [CE_length]; exact hl) t (0, 0) T
 rw [CE_length] at *
 refine ⟨ad, c, w2, hrun, ?_, fun g hg => ?_, h3.two k2 (fun x hx => by rw [Option.mem_toList] at hx; exact h2 x hx)⟩
 ·rw [CE_append]; exact hO
 ·rcases hN g hg with h | h
  ·exact h2 g h
  ·exact Nat.le_trans h3.size h
section
variable {w : World}
end
theorem index29 {A : List Int} {i : Nat} {x : Int} (ha : A.length = 8) (h : A[i]? = some x) (W : World) : (Instr.index 84 (.agg (BI A).toArray) (.int .i64 (i : Int))).run Tryz.prog W = .ok (Iv x) W := by
 have hs : (sizeOf 2).run Tryz.prog W = .ok 1 W := by kernel_rfl
 have hc : (BI A)[i]? = some (Iv x) := BI_get h
 simp [Instr.index, run_underlying Tryz.underlying84, asIntOf, hs, part, go_sem, hc]
 intro h8
 have := get_lt h
 omega
theorem toE_ok {e : Ep} (h : badE e = false) (h6 : E64 e) : (toE e).r ≤ 7 ∧ I64 (toE e).v := by
 have := badE_no h
 exact ⟨by show e.1.toNat ≤ 7; omega, h6.2⟩
theorem GoodJ.addR {j : Jn} (h : GoodJ j) {l : List Ep} (h6 : ∀ e ∈ l, E64 e) (hv : j.ver + l.length < 18446744073709551616) : GoodJ (addR j l) := by
 unfold YtngnenbidpojeaaGreatDoor.addR
 split
 ·exact h
 ·rename_i ha
  refine GoodJ.addA h (fun e he => ?_) (by rw [List.length_map]; exact hv)
  obtain ⟨x, hx, rfl⟩ := List.mem_map.1 he
  refine toE_ok ?_ (h6 x hx)
  cases hb : badE x with
  | false => rfl
  | true => exact absurd (List.any_eq_true.2 ⟨x, hx, hb⟩) ha
theorem addR_ver (j : Jn) (l : List Ep) : (addR j l).ver ≤ j.ver + l.length := by
 unfold addR
 split
 ·omega
 ·rw [ver_addA, List.length_map]; exact Nat.le_refl _
section
variable {w0 w w' : World} {p : Nat} {j : Jn}
end
def cellsF (A : List Int) (v : Value) (n : Nat) : List Value := BI A ++ [v, Uv n]
structure IsF_J (w : World) (f : Nat) (v : Value) (j : Jn) : Prop where
 box : w.heap[f]? = some (.cells (cellsF j.base v j.ver).toArray 137 (0, 0))
 own : OwnsR 93 2 w v (CE (j.ev.map ofE))
 b8 : j.base.length = 8
section
variable {w w' : World} {f : Nat} {v : Value} {j : Jn}
theorem IsF_J.lt (h : IsF_J w f v j) : f < w.heap.size := lt_of_block h.box
theorem IsF_J.kept {S : List Nat} (h : IsF_J w f v j) (k : Kept S w w') (hf : f ∉ S) (hv : ∀ g, v.ownBlock = some g → g ∉ S) : IsF_J w' f v j := ⟨k.keeps h.box hf, h.own.kept k hv, h.b8⟩
theorem IsF_J.kept0 (h : IsF_J w f v j) (k : Kept [] w w') : IsF_J w' f v j := h.kept k (by simp) (by simp)
theorem IsF_J.free (h : IsF_J w f v j) (i : Nat) : w.frozen? ⟨f, i, none⟩ = false := by simp [World.frozen?, h.box]
theorem IsF_J.cellA (h : IsF_J w f v j) {i : Nat} {x : Int} (hi : j.base[i]? = some x) : w.cell? ⟨f, i, none⟩ = some (Iv x) := cell_list h.box (by
 rw [cellsF, List.getElem?_append_left (by rw [BI_length]; exact get_lt hi)]
 exact BI_get hi)
theorem IsF_J.ev (h : IsF_J w f v j) : w.cell? ⟨f, 8, none⟩ = some v := cell_list h.box (by
 rw [cellsF, List.getElem?_append_right (by rw [BI_length, h.b8]; exact Nat.le_refl _), BI_length, h.b8]
 rfl)
theorem IsF_J.ver (h : IsF_J w f v j) : w.cell? ⟨f, 9, none⟩ = some (Uv j.ver) := cell_list h.box (by
 rw [cellsF, List.getElem?_append_right (by rw [BI_length, h.b8]; omega), BI_length, h.b8]
 rfl)
theorem IsF_J.row (h : IsF_J w f v j) : ReadsR 2 w v (CE (j.ev.map ofE)) := h.own.reads (CE_wide _)
theorem IsF_J.form (h : IsF_J w f v j) : ∃ a c, v = .slice a j.ev.length c ∧ j.ev.length ≤ c ∧ c ≤ 9223372036854775807 := by
 have := rowE_form h.row
 rwa [List.length_map] at this
theorem IsF_J.apart (h : IsF_J w f v j) : v.ownBlock ≠ some f := ownsR_ne h.own h.box (by decide)
theorem IsF_J.rangeA (h : IsF_J w f v j) : w.rangeAt f 0 (BI j.base) := fun i x hx => by
 rw [BI, List.getElem?_map, Option.map_eq_some_iff] at hx
 obtain ⟨y, hy, rfl⟩ := hx
 rw [Nat.zero_add]
 exact h.cellA hy
theorem IsF_J.setA (h : IsF_J w f v j) {i : Nat} (hi : i < 8) (x : Int) : IsF_J (w.setCell ⟨f, i, none⟩ (Iv x)) f v ⟨j.base.set i x, j.ev, j.ver⟩ := by
 have k := (Kept.refl [f] w).setCell (p := ⟨f, i, none⟩) (.inl (by simp)) (Iv x)
 refine ⟨?_, h.own.kept k (fun g hg hm => by simp at hm; subst hm; exact h.apart hg), by dsimp only; rw [List.length_set]; exact h.b8⟩
 rw [set_list h.box, cellsF, List.set_append_left _ _ (by rw [BI_length, h.b8]; exact hi), BI_set]
 rfl
theorem IsF_J.put (h : IsF_J w f v j) {u : Value} {ev : List Ev} (hu : OwnsR 93 2 w u (CE (ev.map ofE))) : IsF_J (w.setCell ⟨f, 8, none⟩ u) f u ⟨j.base, ev, j.ver⟩ := by
 have k := (Kept.refl [f] w).setCell (p := ⟨f, 8, none⟩) (.inl (by simp)) u
 refine ⟨?_, hu.kept k (fun g hg hm => by simp at hm; subst hm; exact ownsR_ne hu h.box (by decide) hg), h.b8⟩
 rw [set_list h.box, cellsF, List.set_append_right _ _ (by rw [BI_length, h.b8]; exact Nat.le_refl _), BI_length, h.b8]
 rfl
theorem IsF_J.setv (h : IsF_J w f v j) (n : Nat) : IsF_J (w.setCell ⟨f, 9, none⟩ (Uv n)) f v ⟨j.base, j.ev, n⟩ := by
 have k := (Kept.refl [f] w).setCell (p := ⟨f, 9, none⟩) (.inl (by simp)) (Uv n)
 refine ⟨?_, h.own.kept k (fun g hg hm => by simp at hm; subst hm; exact h.apart hg), h.b8⟩
 rw [set_list h.box, cellsF, List.set_append_right _ _ (by rw [BI_length, h.b8]; omega), BI_length, h.b8]
 rfl
end
section
variable {w : World} {f : Nat} {v : Value}
theorem drop_tail {W : World} {a : Option Addr} {n c : Nat} {b : List Int} {y : Ev} {t : List Ev} {ver : Nat} (hF : IsF_J W f (.slice a n c) ⟨b, y :: t, ver⟩) (hn : n = t.length + 1) (hl : n ≤ 1000) (hc : n ≤ c) :
  ∃ a1 c1 W1, (Builtin.append_ #[27, 27] 27 #[.slice (some ⟨W.heap.size, 0, none⟩) 0 0, .slice (cutA a c 1 2) (n - 1) (c - 1)]).run Tryz.prog (W.alloc (.cells #[] 93)) = .ok (.slice a1 (n - 1) c1) W1 ∧ Kept [] W W1 ∧ W1.cell? ⟨f, 8, none⟩ = some (.slice a n c) ∧ W1.frozen? ⟨f, 8, none⟩ = false ∧
   IsF_J (W1.setCell ⟨f, 8, none⟩ (.slice a1 (n - 1) c1)) f (.slice a1 (n - 1) c1) ⟨b, t, ver⟩ ∧ Fresh W (.slice a1 (n - 1) c1) := by
 have k0 := (Kept.refl [] W).alloc (.cells #[] 93)
 have ho : OwnsR 93 2 (W.alloc (.cells #[] 93)) (.slice (some ⟨W.heap.size, 0, none⟩) 0 0) [] := ownsR_block (rs := []) (heap_alloc_new W _) (by intro r hr; cases hr) rfl (by decide)
 have hr := ReadsR.cut (k := 2) (i := 1) (j := n) (m := c) (by rw [CE_length, List.length_map]; simpa using hn) (ReadsR.kept hF.row k0 (by simp)) (by omega) (Nat.le_refl _) hc (Nat.le_refl _)
 have hrows : ((CE ((y :: t).map ofE)).take n).drop 1 = CE (t.map ofE) := by
  rw [List.take_of_length_le (by rw [CE_length, List.length_map, hn]; simp)]
  simp [CE]
 rw [hrows] at hr
 obtain ⟨a1, c1, W1, hrun, hO, hg, hN⟩ := run_appendR rt30 (W.alloc (.cells #[] 93)) 27 _ [] ho _ (CE (t.map ofE)) (CE_wide _) hr (by rw [CE_length, List.length_map]; simp; omega)
 have hlt : (CE (t.map ofE)).length = n - 1 := by rw [CE_length, List.length_map]; omega
 simp only [List.nil_append, List.length_nil, Nat.zero_add, hlt] at hrun hO hN
 have k1 : Kept [] W W1 := k0.grown hg (fun x hx => .inr (by simp [Value.ownBlock] at hx; omega))
 have hF1 := hF.kept0 k1
 refine ⟨a1, c1, W1, hrun, k1, hF1.ev, hF1.free _, hF1.put (ev := t) hO, fun g hg => ?_⟩
 rcases hN g hg with h | h
 ·simp [Value.ownBlock] at h; omega
 ·have := k0.size; omega
end
end Go.Proofs.YtngnenbidpojeaaGreatDoor
