import Derived.Test.YtngnenbidpojeaaGreatDoorT06
import Derived.Test.YtngnenbidpojeaaGreatDoorT10
/-
 First of an inbox.
-/
namespace Go.Proofs.YtngnenbidpojeaaGreatDoor
open Go.RowKit
set_option linter.unusedVariables false
def hdL (l : List Lt) : Lt := l.headD ⟨[], 0, 0, []⟩
def LetB (w : World) (x : Lt) (b : Bool) (e : Ending) (w' : World) : Prop :=
 ∃ a c, e = .returned (.tuple #[Lv x a c, .bool b]) ∧ OwnsJ w' (.slice a x.args.length c) x.args ∧ Kept [] w w' ∧ Fresh w (.slice a x.args.length c)
section
variable {w : World} {p : Nat} {qs : List Lq}
set_option maxRecDepth 100000 in
set_option maxHeartbeats 1000000 in
theorem first22_none {p' : Option Addr} (hL : ∀ W, Kept [] w W → Calls Tryz.prog 16 #[.pointer p'] W fun e w' => e = .returned (.int .i64 0) ∧ W = w') : Calls Tryz.prog 33 #[.pointer p'] w fun e w' => LetB w ⟨[], 0, 0, []⟩ false e w' := by
 have HL := Hid.mk hL
 clear hL
 go_enter Tryz.func33, Tryz.ntmps33
 go_wp2_with fail
 obtain ⟨W0, e0, k0, hz0, hb0⟩ := box1 w (.cells #[.string { data := #[] }, .int .u64 0, .int .i64 0, .slice none 0 0] 81)
 rw [e0]
 clear e0
 refine (HL.out _ k0).mono ?_
 rintro e w1 ⟨rfl, rfl⟩
 obtain ⟨c0, c1, c2, c3⟩ := cells4 hb0
 obtain ⟨f0, f1, f2, f3⟩ := free4 hb0
 go_wp2_with fail
 obtain ⟨W8, e8, k8, h8, -⟩ := put4 hb0 (.string { data := #[] }) (.int .u64 0) (.int .i64 0) (.slice none 0 0)
 rw [e8]
 refine bodyPost_ret (results_cell_row2 (p := 2) (u := 3) (ty := 81) rfl _ _ w.heap.size 81 _ (0, 0) _ rfl h8 Tryz.underlying81 rfl (by kernel_rfl) _ rfl) rfl ?_
 exact ⟨none, 0, rfl, OwnsJ.nil _, k0.trans k8 (by simp), fresh_nil w 0⟩
set_option maxRecDepth 100000 in
set_option maxHeartbeats 1000000 in
theorem first22_some {q : Lq} {t : List Lq} (hB : IsB w p (q :: t)) : Calls Tryz.prog 33 #[.pointer (some ⟨p, 0, none⟩)] w fun e w' => LetB w q.x true e w' := by
 have HB := Hid.mk hB
 clear hB
 go_enter Tryz.func33, Tryz.ntmps33
 go_wp2_with fail
 obtain ⟨W0, e0, k0, hz0, hb0⟩ := box1 w (.cells #[.string { data := #[] }, .int .u64 0, .int .i64 0, .slice none 0 0] 81)
 rw [e0]
 clear e0
 have hB0 := HB.out.kept0 k0
 refine (len21 hB0).mono ?_
 rintro e w1 ⟨rfl, rfl⟩
 have hn : (((q :: t).length : Int) == 0) = false := by simp; omega
 generalize ((q :: t).length : Int) = N at hn
 obtain ⟨d0, d1, d2, d3⟩ := hB0.at (j := 0) rfl
 rw [Nat.zero_mul] at *
 have hfm := formed_le (hB0.good q (by simp)).2
 have HC := Hid.mk (copy17 q.x q.ad q.cap (hB0.args q (by simp)).reads (by omega) (by omega))
 clear hB0
 go_wp2_with fail
 refine HC.out.mono ?_
 rintro e w2 ⟨a2, c2, rfl, hO2, k2, hf2⟩
 have hb2 := k2.keeps hb0 (by simp)
 obtain ⟨c0, c1, c2', c3⟩ := cells4 hb2
 obtain ⟨f0, f1, f2, f3⟩ := free4 hb2
 clear d0 d1 d2 d3
 go_wp2_with fail
 obtain ⟨W8, e8, k8, h8, -⟩ := put4 hb2 (Sv q.x.fr) (.int .u64 (q.x.ser : Int)) (.int .i64 q.x.kind) (.slice a2 q.x.args.length c2)
 rw [e8]
 refine bodyPost_ret (results_cell_row2 (p := 2) (u := 3) (ty := 81) rfl _ _ w.heap.size 81 _ (0, 0) _ rfl h8 Tryz.underlying81 rfl (by kernel_rfl) _ rfl) rfl ?_
 exact ⟨a2, c2, rfl, hO2.kept k8 (fun g hg hm => by simp at hm; subst hm; exact ownsJ_ne hO2 hb2 (by decide) hg), (k0.trans k2 (by simp)).trans k8 (by simp), fun g hg => by have := hf2 g hg; have := k0.size; omega⟩
theorem first22 (hB : IsB w p qs) : Calls Tryz.prog 33 #[.pointer (some ⟨p, 0, none⟩)] w fun e w' => LetB w (hdL (qs.map (·.x))) (!qs.isEmpty) e w' := by
 cases qs with
 | nil => exact first22_none (fun W k => len21 (hB.kept0 k))
 | cons q t => exact first22_some hB
end
section
variable {w : World} {p : Nat} {qs : List Lq}
set_option maxRecDepth 100000 in
set_option maxHeartbeats 1000000 in
theorem pop13_some {q : Lq} {t : List Lq} (hB : IsB w p (q :: t)) : Calls Tryz.prog 95 #[.pointer (some ⟨p, 0, none⟩)] w fun e w' => ∃ a c, e = .returned (.tuple #[Lv q.x a c, .bool true]) ∧ OwnsJ w' (.slice a q.x.args.length c) q.x.args ∧ Kept [p] w w' ∧ Fresh w (.slice a q.x.args.length c) ∧ IsB w' p t := by
 have HB := Hid.mk hB
 clear hB
 go_enter Tryz.func95, Tryz.ntmps95
 go_wp2_with fail
 obtain ⟨W0, e0, k0, hz0, hb0⟩ := box1 w (.cells #[.string { data := #[] }, .int .u64 0, .int .i64 0, .slice none 0 0] 81)
 rw [e0]
 clear e0
 have hB0 := HB.out.kept0 k0
 refine (first22_some hB0).mono ?_
 rintro e w1 ⟨a1, c1, rfl, hO1, k1, hf1⟩
 have hb1 := k1.keeps hb0 (by simp)
 have hB1 := hB0.kept0 k1
 have hc1 := hB1.count
 rw [List.length_cons] at hc1
 generalize hN : t.length + 1 = N at hc1
 have HN := Hid.mk hN
 have hN1 : 1 ≤ N := by omega
 have hN8 : N ≤ 8 := by have := hB1.len; rw [List.length_cons] at this; omega
 clear hN
 have hlt : w.heap.size < w1.heap.size := lt_of_block hb1
 have hlp : p < w1.heap.size := hB1.lt
 go_wp2_with fail
 obtain ⟨W2, e2, k2, hz2, hb2⟩ := box1 w1 (.cells #[Sv q.x.fr, .int .u64 (q.x.ser : Int), .int .i64 q.x.kind, .slice a1 q.x.args.length c1] 81)
 rw [e2]
 have hB2 := (hB1.kept0 k2).kept0 (Kept.refl [] W2).drew
 have S0 : W2.drew.cell? ⟨p, 32, none⟩ = some (.int .i64 (N : Int)) := by have := hB2.count; rw [List.length_cons, HN.out] at this; exact this
 have g1 : (1 : Int) ≤ (N : Int) := by omega
 have g8 : (N : Int) ≤ 8 := by omega
 have g0 : (0 : Int) ≤ (N : Int) := by omega
 have hcl : (CQ t).flatten.length = (N - 1) * 4 := by rw [(CQ_wide t).flat_length, CQ_length]; have := HN.out; omega
 have hsrc : ∀ j v, (CQ t).flatten[j]? = some v → W2.drew.cell? ((⟨p, 4, none⟩ : Addr).add j) = some v := fun j v hv => by
  obtain ⟨m, r, i, hm, hi, rfl⟩ := (CQ_wide t).inv j v hv
  obtain ⟨b, o, c', hbo, hcell⟩ := ReadsR.at hB2.row (m + 1) r (by simpa [CQ] using hm)
  injection hbo with hbo _ _
  injection hbo with hbo
  injection hbo with hb ho _
  subst hb ho
  have := hcell i v hi
  rw [add_at]
  rw [show 0 + (m + 1) * 4 + i = 4 + (m * 4 + i) by omega] at this
  exact this
 have hrun := run_copy_rowK (P := Tryz.prog) W2.drew 26 26 3 81 4 p 0 8 8 ⟨p, 4, none⟩ (N - 1) 7 _ 140 (CQ t).flatten Tryz.underlying26 (by kernel_rfl) hB2.box (by rw [hcl]; congr 1; exact (Nat.min_eq_left (by omega)).symm) hsrc (by rw [hcl]; simp only [List.size_toArray]; rw [cellsB_length hB2.len]; omega) (CQ_wide t).one
 obtain ⟨W3, e3, k3, h3, hz3⟩ : ∃ W, W2.drew.setRow p ((cellsB (q :: t)).toArray.toList.take 0 ++ (CQ t).flatten ++ (cellsB (q :: t)).toArray.toList.drop (0 + (CQ t).flatten.length)).toArray = W ∧ Kept [p] W2.drew W ∧ W.heap[p]? = some (.cells ((CQ t).flatten ++ (cellsB (q :: t)).drop (CQ t).flatten.length).toArray 140 (0, 0)) ∧ W.heap.size = W2.heap.size := by
  refine ⟨_, rfl, (Kept.refl [p] W2.drew).setRow (.inl (by simp)) _, ?_, by simp [World.setRow]⟩
  have := setRow_heap W2.drew p (cellsB (q :: t)).toArray ((cellsB (q :: t)).toArray.toList.take 0 ++ (CQ t).flatten ++ (cellsB (q :: t)).toArray.toList.drop (0 + (CQ t).flatten.length)).toArray 140 (0, 0) hB2.box
  simpa using this
 rw [e3] at hrun
 have hc3 : W3.cell? ⟨p, 32, none⟩ = some (.int .i64 (N : Int)) := by
  unfold World.cell?
  rw [h3]
  have := cellsB_count hB2.len
  rw [List.length_cons, HN.out] at this
  dsimp only
  rw [if_neg (by simp), List.getElem?_toArray, List.getElem?_append_right (by rw [hcl]; omega), List.getElem?_drop, show (CQ t).flatten.length + (32 - (CQ t).flatten.length) = 32 by rw [hcl]; omega]
  exact this
 have hl3 : Hid (((CQ t).flatten ++ (cellsB (q :: t)).drop (CQ t).flatten.length).length = 33) := by
  show _ = _
  rw [List.length_append, List.length_drop, cellsB_length hB2.len, hcl]; omega
 have HBW := Hid.mk hB2
 clear e2 hc1 hsrc hcl e3 hB2 hB1
 go_region_held3 (fun W => W.cell? ⟨p, 32, none⟩ = some (.int .i64 (N : Int))) (first | exact S0 | exact hc3) (first | (refine step_copy_run 26 26 (.tmp 17) (.tmp 25) (by rfl) (by rfl) _ _ (by rfl) (by rfl) hrun ?_))
 clear S0 hrun
 have hf3 : W3.frozen? ⟨p, 32, none⟩ = false := by simp [World.frozen?, h3]
 go_wp2_with fail
 have hpw : p < w.heap.size := HB.out.lt
 have hn8 : t.length < 8 := by have := HN.out; omega
 have hNn : (N : Int) - 1 = (t.length : Int) := by have := HN.out; omega
 rw [hNn]
 have h4 := set_list (k := 32) (x := .int .i64 (t.length : Int)) h3
 have k4 := k3.setCell (p := ⟨p, 32, none⟩) (.inl (by simp)) (.int .i64 (t.length : Int))
 have hcc : (W3.setCell ⟨p, 32, none⟩ (.int .i64 (t.length : Int))).cell? ⟨p, 32, none⟩ = some (.int .i64 (t.length : Int)) := World.cell?_setCell_same _ _ _ hc3
 have hl4 : Hid ((((CQ t).flatten ++ (cellsB (q :: t)).drop (CQ t).flatten.length).set 32 (.int .i64 (t.length : Int))).length = 33) := by
  show _ = _
  rw [List.length_set]; exact hl3.out
 have HPOP := Hid.mk (cellsB_pop q t hn8)
 have hz4 : (W3.setCell ⟨p, 32, none⟩ (.int .i64 (t.length : Int))).heap.size = W3.heap.size := by simp
 generalize W3.setCell ⟨p, 32, none⟩ (.int .i64 (t.length : Int)) = W4 at h4 k4 hcc hz4 ⊢
 generalize ((CQ t).flatten ++ (cellsB (q :: t)).drop (CQ t).flatten.length).set 32 (.int .i64 (t.length : Int)) = L4 at h4 hl4 HPOP
 have S4 : W4.drew.cell? ⟨p, 32, none⟩ = some (.int .i64 (t.length : Int)) := hcc
 have hany : ∀ i, i < 33 → ∃ v, W4.drew.cell? ⟨p, i, none⟩ = some v := fun i hi => by
  refine ⟨L4[i]'(by rw [hl4.out]; exact hi), ?_⟩
  show W4.cell? _ = _
  simp [World.cell?, h4, hl4.out, hi]
 have hfree : ∀ i, W4.drew.frozen? ⟨p, i, none⟩ = false := fun i => by
  show W4.frozen? _ = _
  simp [World.frozen?, h4]
 obtain ⟨d0, hd0⟩ := hany (t.length * 4) (by omega)
 obtain ⟨d1, hd1⟩ := hany (t.length * 4 + 1) (by omega)
 obtain ⟨d2, hd2⟩ := hany (t.length * 4 + 2) (by omega)
 obtain ⟨d3, hd3⟩ := hany (t.length * 4 + 3) (by omega)
 have f0 := hfree (t.length * 4)
 have f1 := hfree (t.length * 4 + 1)
 have f2 := hfree (t.length * 4 + 2)
 have f3 := hfree (t.length * 4 + 3)
 have S5 : ((((W4.drew.setCell ⟨p, t.length * 4, none⟩ (.string { data := #[] })).setCell ⟨p, t.length * 4 + 1, none⟩ (.int .u64 0)).setCell ⟨p, t.length * 4 + 2, none⟩ (.int .i64 0)).setCell ⟨p, t.length * 4 + 3, none⟩ (.slice none 0 0)).cell? ⟨p, 32, none⟩ = some (.int .i64 (t.length : Int)) := by
  rw [put4_cell _ _ _ _ _ _ _ (by intro _; simp; omega)]
  exact S4
 have i0 : (0 : Int) ≤ (t.length : Int) := by omega
 have i1 : (t.length : Int) < 8 := by omega
 have e0 : W4.cell? ⟨p, t.length * 4, none⟩ = some d0 := hd0
 have e1 : W4.cell? ⟨p, t.length * 4 + 1, none⟩ = some d1 := hd1
 have e2 : W4.cell? ⟨p, t.length * 4 + 2, none⟩ = some d2 := hd2
 have e3 : W4.cell? ⟨p, t.length * 4 + 3, none⟩ = some d3 := hd3
 have f4 : W4.frozen? ⟨p, t.length * 4, none⟩ = false := f0
 have f5 : W4.frozen? ⟨p, t.length * 4 + 1, none⟩ = false := f1
 have f6 : W4.frozen? ⟨p, t.length * 4 + 2, none⟩ = false := f2
 have f7 : W4.frozen? ⟨p, t.length * 4 + 3, none⟩ = false := f3
 have H4 := Hid.mk h4
 have HK4 := Hid.mk k4
 clear hany hfree hc3 hf3 g1 g8 g0 hcc hz4 hNn h4 k4 h3 k3 hz3
 go_region_held3 (fun W => W.cell? ⟨p, 32, none⟩ = some (.int .i64 (t.length : Int))) (first | exact S4 | exact S5) (fail)
 clear S4 S5 f0 f1 f2 f3 hd0 hd1 hd2 hd3 e0 e1 e2 e3 f4 f5 f6 f7
 have h4 := H4.out
 have k4 := HK4.out
 obtain ⟨W5, e5, k5, h5, hz5⟩ := putL (w := W4) (o := t.length * 4) h4 (.string { data := #[] }) (.int .u64 0) (.int .i64 0) (.slice none 0 0)
 rw [e5]
 rw [HPOP.out] at h5
 have kd := k4
 have h5 : W5.drew.heap[p]? = some (.cells (cellsB t).toArray 140 (0, 0)) := h5
 have k5 := k5.drew
 clear hz5 e5
 generalize W5.drew = W5 at h5 k5 ⊢
 have k15 : Kept [p] w1 W5 := ((k2.mono (by simp)).trans (Kept.refl [p] W2).drew (by simp)).trans (kd.trans k5 (by simp)) (by simp)
 have hb5 := k15.keeps hb1 (by simp; omega)
 have hb6 : W5.heap[w1.heap.size]? = some (.cells #[Sv q.x.fr, .int .u64 (q.x.ser : Int), .int .i64 q.x.kind, .slice a1 q.x.args.length c1] 81) := (kd.trans k5 (by simp)).keeps (w := W2.drew) hb2 (by simp; omega)
 obtain ⟨c0, c1', c2, c3⟩ := cells4 hb5
 obtain ⟨f0, f1, f2, f3⟩ := free4 hb5
 obtain ⟨d0', d1', d2', d3'⟩ := cells4 hb6
 have k05 : Kept [p] w W5 := ((k0.trans k1 (by simp)).mono (by simp)).trans k15 (by simp)
 have hO5 := hO1.kept k15 (fun g hg hm => by simp at hm; subst hm; have := hf1 _ hg; have := k0.size; omega)
 have hB5 : IsB W5 p t := ⟨h5, by omega, fun y hy => (HB.out).good y (by simp [hy]), fun y hy => ((HB.out).args y (by simp [hy])).kept k05 (fun g hg hm => by simp at hm; subst hm; exact ownsJ_ne ((HB.out).args y (by simp [hy])) (HB.out).box (by decide) hg)⟩
 have HH : Hid (W5.heap[w.heap.size]? = some (.cells #[.string { data := #[] }, .int .u64 0, .int .i64 0, .slice none 0 0] 81) ∧ Kept [p] w W5 ∧ OwnsJ W5 (.slice a1 q.x.args.length c1) q.x.args ∧ IsB W5 p t) := ⟨hb5, k05, hO5, hB5⟩
 have hne : w.heap.size ≠ w1.heap.size := by omega
 clear hb5 hb6 k05 hO5 hB5 k15 kd k5 h5 h4 k4 hz2 hb2 k2 hl3 hl4 HPOP HBW H4 HK4
 go_wp2_with fail
 obtain ⟨W8, e8, k8, h8, -⟩ := put4 HH.out.1 (Sv q.x.fr) (.int .u64 (q.x.ser : Int)) (.int .i64 q.x.kind) (.slice a1 q.x.args.length c1)
 rw [e8]
 refine bodyPost_ret (results_cell_row2 (p := 2) (u := 3) (ty := 81) rfl _ _ w.heap.size 81 _ (0, 0) _ rfl h8 Tryz.underlying81 rfl (by kernel_rfl) _ rfl) rfl ?_
 refine ⟨a1, c1, rfl, HH.out.2.2.1.kept k8 (fun g hg hm => by simp at hm; subst hm; exact ownsJ_ne HH.out.2.2.1 HH.out.1 (by decide) hg), HH.out.2.1.trans k8 (by simp), fun g hg => by have := hf1 g hg; have := k0.size; omega, HH.out.2.2.2.kept k8 (by simp; omega) (fun y hy g hg hm => by simp at hm; subst hm; exact ownsJ_ne (HH.out.2.2.2.args y hy) HH.out.1 (by decide) hg)⟩
end
theorem flat_set4 (ds zs : List Lq) (z q : Lq) : ((((CQ (ds ++ z :: zs)).flatten.set (ds.length * 4) (Sv q.x.fr)).set (ds.length * 4 + 1) (.int .u64 (q.x.ser : Int))).set (ds.length * 4 + 2) (.int .i64 q.x.kind)).set (ds.length * 4 + 3) q.sl = (CQ (ds ++ q :: zs)).flatten := by
 have h : (CQ ds).flatten.length = ds.length * 4 := by rw [(CQ_wide ds).flat_length, CQ_length]
 rw [CQ_append, CQ_append, List.flatten_append, List.flatten_append, ← h]
 rw [List.set_append_right _ _ (Nat.le_refl _), List.set_append_right _ _ (by omega), List.set_append_right _ _ (by omega), List.set_append_right _ _ (by omega)]
 rw [Nat.sub_self, Nat.add_sub_cancel_left, Nat.add_sub_cancel_left, Nat.add_sub_cancel_left]
 rfl
theorem make_lets0 (W : World) : (Instr.makeSlice 26 (.int .i64 0) (.int .i64 0)).run Tryz.prog W = .ok (.slice (some ⟨W.heap.size, 0, none⟩) 0 0) (W.alloc (.cells (CQ (List.replicate 0 zq)).flatten.toArray 81)) := by kernel_rfl
theorem make_lets1 (W : World) : (Instr.makeSlice 26 (.int .i64 1) (.int .i64 1)).run Tryz.prog W = .ok (.slice (some ⟨W.heap.size, 0, none⟩) 1 1) (W.alloc (.cells (CQ (List.replicate 1 zq)).flatten.toArray 81)) := by kernel_rfl
theorem make_lets2 (W : World) : (Instr.makeSlice 26 (.int .i64 2) (.int .i64 2)).run Tryz.prog W = .ok (.slice (some ⟨W.heap.size, 0, none⟩) 2 2) (W.alloc (.cells (CQ (List.replicate 2 zq)).flatten.toArray 81)) := by kernel_rfl
theorem make_lets3 (W : World) : (Instr.makeSlice 26 (.int .i64 3) (.int .i64 3)).run Tryz.prog W = .ok (.slice (some ⟨W.heap.size, 0, none⟩) 3 3) (W.alloc (.cells (CQ (List.replicate 3 zq)).flatten.toArray 81)) := by kernel_rfl
theorem make_lets4 (W : World) : (Instr.makeSlice 26 (.int .i64 4) (.int .i64 4)).run Tryz.prog W = .ok (.slice (some ⟨W.heap.size, 0, none⟩) 4 4) (W.alloc (.cells (CQ (List.replicate 4 zq)).flatten.toArray 81)) := by kernel_rfl
theorem make_lets5 (W : World) : (Instr.makeSlice 26 (.int .i64 5) (.int .i64 5)).run Tryz.prog W = .ok (.slice (some ⟨W.heap.size, 0, none⟩) 5 5) (W.alloc (.cells (CQ (List.replicate 5 zq)).flatten.toArray 81)) := by kernel_rfl
theorem make_lets6 (W : World) : (Instr.makeSlice 26 (.int .i64 6) (.int .i64 6)).run Tryz.prog W = .ok (.slice (some ⟨W.heap.size, 0, none⟩) 6 6) (W.alloc (.cells (CQ (List.replicate 6 zq)).flatten.toArray 81)) := by kernel_rfl
theorem make_lets7 (W : World) : (Instr.makeSlice 26 (.int .i64 7) (.int .i64 7)).run Tryz.prog W = .ok (.slice (some ⟨W.heap.size, 0, none⟩) 7 7) (W.alloc (.cells (CQ (List.replicate 7 zq)).flatten.toArray 81)) := by kernel_rfl
theorem make_lets8 (W : World) : (Instr.makeSlice 26 (.int .i64 8) (.int .i64 8)).run Tryz.prog W = .ok (.slice (some ⟨W.heap.size, 0, none⟩) 8 8) (W.alloc (.cells (CQ (List.replicate 8 zq)).flatten.toArray 81)) := by kernel_rfl
theorem make_lets (n : Nat) (h : n ≤ 8) (W : World) : (Instr.makeSlice 26 (.int .i64 (n : Int)) (.int .i64 (n : Int))).run Tryz.prog W = .ok (.slice (some ⟨W.heap.size, 0, none⟩) n n) (W.alloc (.cells (CQ (List.replicate n zq)).flatten.toArray 81)) := by
 have h' : n = 0 ∨ n = 1 ∨ n = 2 ∨ n = 3 ∨ n = 4 ∨ n = 5 ∨ n = 6 ∨ n = 7 ∨ n = 8 := by omega
 rcases h' with rfl | rfl | rfl | rfl | rfl | rfl | rfl | rfl | rfl
 ·exact make_lets0 W
 ·exact make_lets1 W
 ·exact make_lets2 W
 ·exact make_lets3 W
 ·exact make_lets4 W
 ·exact make_lets5 W
 ·exact make_lets6 W
 ·exact make_lets7 W
 ·exact make_lets8 W
section
variable {w : World} {p : Nat} {qs : List Lq}
set_option maxRecDepth 100000 in
set_option maxHeartbeats 1000000 in
theorem encode18 (hB : IsB w p qs) : Calls Tryz.prog 66 #[.pointer (some ⟨p, 0, none⟩)] w fun e w' => ∃ v, e = .returned v ∧ Owns 5 w' v (packB qs) ∧ Kept [] w w' ∧ Fresh w v := by
 have hB' := hB.kept0 (Kept.refl [] w).drew
 have hP := Hid.mk (pack20 hB'.row hB'.vals (fun q hq => (hB.good q hq).1) (by have := hB.len; omega))
 have S0 := hB'.count
 have hc := hB.count
 have hl := hB.len
 clear hB hB'
 have hi0 : (0 : Int) ≤ (qs.length : Int) := by omega
 have hi1 : (qs.length : Int) ≤ 8 := by omega
 go_enter Tryz.func66, Tryz.ntmps66
 go_wp2_with fail
 go_region_held3 (fun W => W.cell? ⟨p, 32, none⟩ = some (.int .i64 (qs.length : Int))) (first | exact S0 | exact S1) (first | (go_at_call 62; refine hP.out.mono ?_; rintro e w2 ⟨v2, rfl, hO2, k2, hf2⟩; have S1 := k2.cell_eq S0))
 clear S0 S1
 go_wp2_with fail
 go_ret
 exact ⟨v2, rfl, hO2, (Kept.refl [] w).drew.trans k2 (by simp), hf2⟩
set_option maxRecDepth 100000 in
set_option maxHeartbeats 1000000 in
theorem all24 (hB : IsB w p qs) : Calls Tryz.prog 46 #[.pointer (some ⟨p, 0, none⟩)] w fun e w' => ∃ v, e = .returned v ∧ ∃ qs', qs'.map (·.x) = qs.map (·.x) ∧ OwnL w w' v qs' ∧ Kept [] w w' := by
 have HB := Hid.mk hB
 have hc := hB.count
 have hl := hB.len
 have hpl := hB.lt
 clear hB
 have hi0 : (0 : Int) ≤ (qs.length : Int) := by omega
 have hi1 : (qs.length : Int) ≤ 8 := by omega
 obtain ⟨L, hL⟩ : ∃ L, L = (CQ (List.replicate qs.length zq)).flatten := ⟨_, rfl⟩
 have hmk := make_lets qs.length hl w
 rw [← hL] at hmk
 have HL := Hid.mk hL
 clear hL
 generalize hn : qs.length = n at *
 have HN := Hid.mk hn
 clear hn
 go_enter Tryz.func46, Tryz.ntmps46
 go_wp2_with fail
 have hg0 : (w.alloc (.cells L.toArray 81)).heap[w.heap.size]? = some (.cells L.toArray 81 (0, 0)) := heap_alloc_new w _
 have k0 := (Kept.refl [] w).alloc (.cells L.toArray 81)
 have hz0 : w.heap.size < (w.alloc (.cells L.toArray 81)).heap.size := by simp
 generalize w.alloc (.cells L.toArray 81) = W0 at hg0 k0 hz0 ⊢
 go_loopw [14] (fun i wr => ∃ (j : Nat) (ds : List Lq), i = .int .i64 (j : Int) ∧ j ≤ n ∧ Hid (ds.length = j ∧ ds.map (·.x) = (qs.take j).map (·.x) ∧ (∀ q ∈ ds, OwnsJ wr q.sl q.x.args ∧ Fresh w q.sl) ∧ wr.heap[w.heap.size]? = some (.cells (CQ (ds ++ List.replicate (n - j) zq)).flatten.toArray 81 (0, 0)) ∧ Kept [] w wr)) (fun i _ => n - (intOf i).toNat)
 case atStart =>
  refine ⟨0, [], rfl, by omega, Hid.mk ⟨rfl, rfl, by simp, ?_, k0⟩⟩
  rw [HL.out] at hg0
  exact hg0
 case round =>
  obtain ⟨j, ds, rfl, hj, hH⟩ := hrel
  by_cases hlt : j < n
  ·have hjI : (j : Int) < (n : Int) := by omega
   have hj0 : (0 : Int) ≤ (j : Int) := by omega
   have hj8 : (j : Int) < 8 := by omega
   obtain ⟨hdl, hdm, hda, hdb, kk⟩ := hH.out
   obtain ⟨q, hq⟩ : ∃ q, qs[j]? = some q := ⟨_, List.getElem?_eq_getElem (by have := HN.out; omega)⟩
   have hBr := HB.out.kept0 kk
   obtain ⟨d0, d1, d2, d3⟩ := hBr.at hq
   have hqm := List.mem_of_getElem? hq
   have hfm := formed_le (hBr.good q hqm).2
   have HC := Hid.mk (copy17 q.x q.ad q.cap (hBr.args q hqm).reads (by omega) (by omega))
   have HQ := Hid.mk hq
   clear hdl hdm hda hdb kk hq hBr hqm
   go_wp2_with fail
   refine HC.out.mono ?_
   rintro e w2 ⟨a2, c2, rfl, hO2, k2, hf2⟩
   obtain ⟨hdl, hdm, hda, hdb, kk⟩ := hH.out
   have hb2 := k2.keeps hdb (by simp)
   have hrep : List.replicate (n - j) zq = zq :: List.replicate (n - (j + 1)) zq := by rw [show n - j = n - (j + 1) + 1 by omega, List.replicate_succ]
   rw [hrep] at hb2
   obtain ⟨W3, e3, k3, h3, hz3⟩ := putL (o := j * 4) hb2 (Sv q.x.fr) (.int .u64 (q.x.ser : Int)) (.int .i64 q.x.kind) (.slice a2 q.x.args.length c2)
   have hfs := flat_set4 ds (List.replicate (n - (j + 1)) zq) zq ⟨q.x, a2, c2⟩
   rw [hdl] at hfs
   rw [hfs] at h3
   have hcell : ∀ i, i < 4 → ∃ v, w2.cell? ⟨w.heap.size, j * 4 + i, none⟩ = some v := fun i hi => by
    have hlen : (CQ (ds ++ zq :: List.replicate (n - (j + 1)) zq)).flatten.length = n * 4 := by
     rw [(CQ_wide _).flat_length, CQ_length]; simp; omega
    refine ⟨(CQ (ds ++ zq :: List.replicate (n - (j + 1)) zq)).flatten[j * 4 + i]'(by rw [hlen]; omega), ?_⟩
    unfold World.cell?
    rw [hb2]
    have : j * 4 + i < n * 4 := by omega
    simp [hlen, this]
   obtain ⟨x0, hx0⟩ := hcell 0 (by omega)
   obtain ⟨x1, hx1⟩ := hcell 1 (by omega)
   obtain ⟨x2, hx2⟩ := hcell 2 (by omega)
   obtain ⟨x3, hx3⟩ := hcell 3 (by omega)
   rw [Nat.add_zero] at hx0
   have hfz : ∀ i, w2.frozen? ⟨w.heap.size, i, none⟩ = false := fun i => by simp [World.frozen?, hb2]
   have f0 := hfz (j * 4)
   have f1 := hfz (j * 4 + 1)
   have f2 := hfz (j * 4 + 2)
   have f3 := hfz (j * 4 + 3)
   have k03 : Kept [] w W3 := (kk.trans k2 (by simp)).trans k3 (by simp)
   have HR : Hid ((ds ++ [(⟨q.x, a2, c2⟩ : Lq)]).length = j + 1 ∧ (ds ++ [(⟨q.x, a2, c2⟩ : Lq)]).map (·.x) = (qs.take (j + 1)).map (·.x) ∧ (∀ y ∈ ds ++ [(⟨q.x, a2, c2⟩ : Lq)], OwnsJ W3 y.sl y.x.args ∧ Fresh w y.sl) ∧ W3.heap[w.heap.size]? = some (.cells (CQ ((ds ++ [⟨q.x, a2, c2⟩]) ++ List.replicate (n - (j + 1)) zq)).flatten.toArray 81 (0, 0)) ∧ Kept [] w W3) := by
    refine ⟨by simp [hdl], ?_, fun y hy => ?_, ?_, k03⟩
    ·rw [List.take_add_one, HQ.out, List.map_append, List.map_append, hdm]
     rfl
    ·have hy' : OwnsJ w2 y.sl y.x.args ∧ Fresh w y.sl := by
      rcases List.mem_append.1 hy with h | h
      ·exact ⟨(hda y h).1.kept k2 (by simp), (hda y h).2⟩
      ·simp at h; subst h; exact ⟨hO2, fun g hg => by have := hf2 g hg; have := kk.size; omega⟩
     exact ⟨hy'.1.kept k3 (fun g hg hm => by simp at hm; subst hm; exact ownsJ_ne hy'.1 hb2 (by decide) hg), hy'.2⟩
    ·rw [List.append_assoc]; exact h3
   clear d0 d1 d2 d3 hcell hfz h3 hfs hrep hdl hdm hda hdb kk hb2 k03
   go_wp2_with fail
   go_roundw
   case rel => exact ⟨j + 1, _, by go_num, by omega, HR⟩
   case measure => simp [intOf]; omega
  ·obtain rfl : j = n := by omega
   obtain ⟨hdl, hdm, hda, hdb, kk⟩ := hH.out
   go_wp2_with fail
   go_ret
   rw [Nat.sub_self, List.replicate_zero, List.append_nil] at hdb
   rw [List.take_of_length_le (by have := HN.out; omega)] at hdm
   exact ⟨_, rfl, ds, hdm, ⟨ownsR_block hdb (CQ_wide ds) (by rw [CQ_length, hdl]) (by unfold maxLen; omega), fun q hq => (hda q hq).1, fun g hg => by simp [Value.ownBlock] at hg; omega, fun q hq => (hda q hq).2⟩, kk⟩
end
structure IsF_I (w0 w : World) (p : Nat) (v : Value) (qs : List Lq) : Prop where
 box : w.heap[p]? = some (.cells #[v] 56 (0, 0))
 own : OwnL w0 w v qs
 fr : w0.heap.size ≤ p
section
variable {w0 w w' : World} {p pf : Nat} {v : Value} {qs ms : List Lq}
theorem IsF_I.lt (h : IsF_I w0 w p v qs) : p < w.heap.size := lt_of_block h.box
theorem IsF_I.kept0 (hF : IsF_I w0 w pf v ms) (k : Kept [] w w') : IsF_I w0 w' pf v ms := ⟨k.keeps hF.box (by simp), hF.own.kept0 k, hF.fr⟩
set_option maxRecDepth 100000 in
set_option maxHeartbeats 1000000 in
theorem rpush12 (x : Lt) (a : Option Addr) (c : Nat) (hF : IsF_I w0 w p v qs) (h8 : qs.length ≤ 8) (hx : ReadsJ w (.slice a x.args.length c) x.args) (hs : w0.heap.size ≤ w.heap.size) :
  Calls Tryz.prog 25 #[.pointer (some ⟨p, 0, none⟩), Lv x a c] w fun e w' => e = .returned (.int .i64 (pushE qs.length x)) ∧ ∃ v' qs', IsF_I w0 w' p v' qs' ∧ qs'.map (·.x) = pushL (qs.map (·.x)) x ∧ Kept (foot p v) w w' := by
 have HF := Hid.mk hF
 have HX := Hid.mk hx
 obtain ⟨av, cv, rfl, hv1, hv2⟩ := hF.own.row.form
 have H1 : Hid (x.formed = false → pushE qs.length x = 1 ∧ pushL (qs.map (·.x)) x = qs.map (·.x)) := fun h => by
  unfold pushE pushL; rw [if_pos h, if_neg (by simp [h])]; exact ⟨rfl, rfl⟩
 have H2 : Hid (x.formed = true → qs.length = 8 → pushE qs.length x = 7 ∧ pushL (qs.map (·.x)) x = qs.map (·.x)) := fun h h' => by
  unfold pushE pushL; rw [if_neg (by simp [h]), if_pos h', if_neg (by simp [h'])]; exact ⟨rfl, rfl⟩
 have H3 : Hid (x.formed = true → qs.length ≠ 8 → pushE qs.length x = 0 ∧ pushL (qs.map (·.x)) x = qs.map (·.x) ++ [x]) := fun h h' => by
  unfold pushE pushL; rw [if_neg (by simp [h]), if_neg h', if_pos ⟨h, by simpa using h'⟩]; exact ⟨rfl, rfl⟩
 generalize pushE qs.length x = E at H1 H2 H3
 generalize pushL (qs.map (·.x)) x = PL at H1 H2 H3
 clear hF hx
 go_enter Tryz.func25, Tryz.ntmps25
 go_wp2_with fail
 obtain ⟨W0, e0, k0, hz0, hb0⟩ := box1 w (.cells #[Sv x.fr, .int .u64 (x.ser : Int), .int .i64 x.kind, .slice a x.args.length c] 81)
 rw [e0]
 clear e0
 refine (formed14 x a c).mono ?_
 rintro e w1 ⟨rfl, k1⟩
 have hb1 := k1.keeps hb0 (by simp)
 have k01 := k0.trans k1 (by simp)
 have hF1 := HF.out.kept0 k01
 have hc1 := cell_of_one hF1.box
 cases hfm : x.formed with
 | false =>
  obtain ⟨rfl, rfl⟩ := H1.out hfm
  go_wp2_with fail
  go_ret
  exact ⟨rfl, _, qs, hF1, rfl, k01.mono (by simp)⟩
 | true =>
  have hfl := formed_le hfm
  have HFM := Hid.mk hfm
  clear hfm
  by_cases hn8 : qs.length = 8
  ·obtain ⟨rfl, rfl⟩ := H2.out HFM.out hn8
   have g8 : ((8 : Int) ≤ (qs.length : Int)) := by omega
   clear hn8
   go_wp2_with fail
   go_ret
   exact ⟨rfl, _, qs, hF1, rfl, k01.mono (by simp)⟩
  ·obtain ⟨rfl, rfl⟩ := H3.out HFM.out hn8
   have g8 : ((8 : Int) ≤ (qs.length : Int)) = False := eq_false (by omega)
   go_wp2_with fail
   have kd := k01.drew
   have hFd := HF.out.kept0 kd
   have hbd : w1.drew.heap[w.heap.size]? = some (.cells #[Sv x.fr, .int .u64 (x.ser : Int), .int .i64 x.kind, .slice a x.args.length c] 81 (0, 0)) := hb1
   obtain ⟨c0, c1, c2, c3⟩ := cells4 hbd
   have hcd := cell_of_one hFd.box
   have HC := Hid.mk (copy25 x a c (HX.out.kept kd (by simp)) (by omega))
   have HFD := Hid.mk hFd
   have HKD := Hid.mk kd
   clear hFd hbd hb1 hb0 hc1 k0 k1 k01 hz0 hF1 kd
   go_region_law (first | (refine step_append_run 26 (.tmp 18) (.tmp 21) (by rfl) (by rfl) _ _ (by rfl) (by rfl) hrun ?_) | (go_simp; go_at_call 79; refine HC.out.mono ?_; rintro e w5 ⟨a5, c5, rfl, hO5, k5, hf5⟩; obtain ⟨a6, c6, w6, hrun, hO6, k6⟩ := (HFD.out.own.kept0 k5).app ⟨x, a5, c5⟩ hO5 (fun g hg => by have := hf5 g hg; have := HKD.out.size; omega) (by have := k5.size; have := HKD.out.size; omega) (by omega); have hF5 := HFD.out.kept0 k5; have h6 := k6.keeps hF5.box (by rw [Option.mem_toList]; exact ownsR_ne hF5.own.own hF5.box (by decide)); have q3 := cell_of_one h6; have qf := free_of_one h6; have q5 := cell_of_one hF5.box; have q6 := ((Kept.refl [] w5).alloc (.cells #[Sv x.fr, .int .u64 (x.ser : Int), .int .i64 x.kind, .slice a5 x.args.length c5] 81)).cell_eq q5; clear hF5))
   all_goals
    have hR : IsF_I w0 (w6.setCell ⟨p, 0, none⟩ (.slice a6 (qs.length + 1) c6)) p (.slice a6 (qs.length + 1) c6) (qs ++ [⟨x, a5, c5⟩]) ∧ (qs ++ [(⟨x, a5, c5⟩ : Lq)]).map (·.x) = qs.map (·.x) ++ [x] ∧ Kept (foot p (.slice av qs.length cv)) w (w6.setCell ⟨p, 0, none⟩ (.slice a6 (qs.length + 1) c6)) := by
     refine ⟨⟨one_setCell h6, hO6.kept ((Kept.refl [p] w6).setCell (p := ⟨p, 0, none⟩) (.inl (by simp)) _) (fun y hy => ?_), HF.out.fr⟩, by simp, ?_⟩
     ·simp at hy
      subst hy
      exact ⟨ownsR_ne hO6.own h6 (by decide), fun q hq => ownsJ_ne (hO6.args q hq) h6 (by decide)⟩
     ·refine ((((HKD.out.trans k5 (by simp)).mono (by simp)).trans k6 (fun y hy => .inl (mem_foot.2 (.inr (by rw [Option.mem_toList] at hy; exact hy))))).setCell (p := ⟨p, 0, none⟩) (.inl (mem_foot.2 (.inl rfl))) _)
    have HR := Hid.mk hR
    clear hR hO6 k6 h6 hO5 k5 hf5 q3 qf q5 q6 hrun
    go_wp2_with fail
    go_ret
    exact ⟨rfl, _, _, HR.out⟩
theorem cutQ {b o cv : Nat} {q : Lq} {t : List Lq} (h : RowQ w (.slice (some ⟨b, o, none⟩) (t.length + 1) cv) (q :: t)) : RowQ w (.slice (if cv = 1 then some ⟨b, o, none⟩ else some ⟨b, o + 4, none⟩) t.length (cv - 1)) t := by
 obtain ⟨-, hb1, hb2⟩ := h.bound
 have := ReadsR.cut (k := 4) (i := 1) (j := t.length + 1) (m := cv) (by rw [CQ_length]; rfl) h (by omega) (Nat.le_refl _) hb1 (Nat.le_refl _)
 have e : ((CQ (q :: t)).take (t.length + 1)).drop 1 = CQ t := by
  rw [List.take_of_length_le (by rw [CQ_length]; simp)]
  rfl
 rw [e] at this
 unfold cutA at this
 rw [Option.map_some, add_at] at this
 exact this
end
end Go.Proofs.YtngnenbidpojeaaGreatDoor
