/-
  makeLast.
-/
import Derived.Test.YtngjljgcldfekaaWa
namespace Go.Proofs.Ytngjljgcldfekaa
open Go.RowKit
set_option linter.unusedVariables false
theorem cell_drew (w : World) (a : Addr) : w.drew.cell? a = w.cell? a := rfl
/-- A struct of six cells that is stored whole. -/
abbrev put6 (w : World) (p o : Nat) (v0 v1 v2 v3 v4 v5 : Value) : World := (((((w.setCell ⟨p, o, none⟩ v0).setCell ⟨p, o + 1, none⟩ v1).setCell ⟨p, o + 2, none⟩ v2).setCell ⟨p, o + 3, none⟩ v3).setCell ⟨p, o + 4, none⟩ v4).setCell ⟨p, o + 5, none⟩ v5
theorem put6_cell (w : World) (p o : Nat) (v0 v1 v2 v3 v4 v5 : Value) {a : Addr} (h : a.block = p → a.off < o ∨ o + 6 ≤ a.off) : (put6 w p o v0 v1 v2 v3 v4 v5).cell? a = w.cell? a := by
  unfold put6
  rw [World.cell?_setCell_other, World.cell?_setCell_other, World.cell?_setCell_other, World.cell?_setCell_other, World.cell?_setCell_other, World.cell?_setCell_other]
  all_goals (intro e; subst e; have := h rfl; simp at this; omega)
theorem put6_heap {w : World} {p o : Nat} {Q : List Value} {t : TypeId} (h : w.heap[p]? = some (.cells Q.toArray t (0, 0))) (v0 v1 v2 v3 v4 v5 : Value) : (put6 w p o v0 v1 v2 v3 v4 v5).heap[p]? = some (.cells (sets Q o [v0, v1, v2, v3, v4, v5]).toArray t (0, 0)) :=
  set_list (set_list (set_list (set_list (set_list (set_list h)))))
theorem put6_kept (w : World) (p o : Nat) (v0 v1 v2 v3 v4 v5 : Value) : Kept [p] w (put6 w p o v0 v1 v2 v3 v4 v5) :=
  ((((((Kept.refl [p] w).setCell (p := ⟨p, o, none⟩) (.inl (by simp)) v0).setCell (p := ⟨p, o + 1, none⟩) (.inl (by simp)) v1).setCell (p := ⟨p, o + 2, none⟩) (.inl (by simp)) v2).setCell (p := ⟨p, o + 3, none⟩) (.inl (by simp)) v3).setCell (p := ⟨p, o + 4, none⟩) (.inl (by simp)) v4).setCell (p := ⟨p, o + 5, none⟩) (.inl (by simp)) v5
theorem cells6 {w : World} {b : Nat} {v0 v1 v2 v3 v4 v5 : Value} {t : TypeId} (h : w.heap[b]? = some (.cells #[v0, v1, v2, v3, v4, v5] t (0, 0))) : w.cell? ⟨b, 0, none⟩ = some v0 ∧ w.cell? ⟨b, 1, none⟩ = some v1 ∧ w.cell? ⟨b, 2, none⟩ = some v2 ∧ w.cell? ⟨b, 3, none⟩ = some v3 ∧ w.cell? ⟨b, 4, none⟩ = some v4 ∧ w.cell? ⟨b, 5, none⟩ = some v5 := by simp [World.cell?, h]
theorem free6 {w : World} {b : Nat} {v0 v1 v2 v3 v4 v5 : Value} {t : TypeId} (h : w.heap[b]? = some (.cells #[v0, v1, v2, v3, v4, v5] t (0, 0))) : w.frozen? ⟨b, 0, none⟩ = false ∧ w.frozen? ⟨b, 1, none⟩ = false ∧ w.frozen? ⟨b, 2, none⟩ = false ∧ w.frozen? ⟨b, 3, none⟩ = false ∧ w.frozen? ⟨b, 4, none⟩ = false ∧ w.frozen? ⟨b, 5, none⟩ = false := by simp [World.frozen?, h]
/-- A record's six cells. -/
theorem cellsC_six {x : Cl} (h : x.s.length ≤ 4) : ∃ a b c d : Nat, cellsC x = [Uv x.c, Uv a, Uv b, Uv c, Uv d, .int .i64 (x.s.length : Int)] := by
  obtain ⟨cc, l⟩ := x
  dsimp only at h
  match l, h with
  | [], _ => exact ⟨0, 0, 0, 0, rfl⟩
  | [a], _ => exact ⟨a, 0, 0, 0, rfl⟩
  | [a, b], _ => exact ⟨a, b, 0, 0, rfl⟩
  | [a, b, c], _ => exact ⟨a, b, c, 0, rfl⟩
  | [a, b, c, d], _ => exact ⟨a, b, c, d, rfl⟩
  | _ :: _ :: _ :: _ :: _ :: _, h => simp at h
theorem slice34 (p j n : Nat) (h1 : j ≤ n) (h2 : n ≤ 64) (W : World) : (Instr.sliceAt 34 (.pointer (some ⟨p, 0, none⟩)) (some (.int .i64 (j : Int))) (some (.int .i64 (n : Int))) none).run Try.prog W = .ok (.slice (some (if 64 = j then ⟨p, 0, none⟩ else ⟨p, j * 6, none⟩)) (n - j) (64 - j)) W := by
  have ht : Try.prog.underlying 34 = some (.array (Try.prog.arrayLen 34) (Try.prog.elem 34)) := by kernel_rfl
  have h64 : Try.prog.arrayLen 34 = 64 := by kernel_rfl
  have he : Try.prog.elem 34 = 33 := by kernel_rfl
  have hs : (sizeOf 33).run Try.prog W = .ok 6 W := by kernel_rfl
  rw [run_sliceAt_array_lh W 34 ⟨p, 0, none⟩ ht .i64 .i64 (j : Int) (n : Int) (by omega) (by omega) (by rw [h64]; omega), he, hs, Result.andThen_ok, slicedAt, h64, add_at, Nat.zero_add]
  rfl
/-- What copy leaves. -/
theorem copy75 {w : World} {p : Nat} {M : List Cl} (hB : IsWd w p M) {j : Nat} (hj : j < M.length) : ∃ r W', (Builtin.copy_ #[75, 75] 3 #[.slice (some ⟨p, j * 6, none⟩) (M.length - j) (64 - j), .slice (some (if 64 = j + 1 then ⟨p, 0, none⟩ else ⟨p, (j + 1) * 6, none⟩)) (M.length - (j + 1)) (64 - (j + 1))]).run Try.prog w = .ok r W' ∧ Kept [p] w W' ∧
    W'.heap[p]? = some (.cells ((cellsW M).take (j * 6) ++ (CC (M.drop (j + 1))).flatten ++ (cellsW M).drop (j * 6 + (CC (M.drop (j + 1))).flatten.length)).toArray 36 (0, 0)) := by
  have hl64 := hB.fit.len
  have hC : Four (M.drop (j + 1)) := fun x hx => hB.fit.four x (List.mem_of_mem_drop hx)
  have lc : (CC (M.drop (j + 1))).flatten.length = (M.length - (j + 1)) * 6 := by rw [(CC_wide hC).flat_length, CC_length, List.length_drop]
  have hsrc : ∀ i v, (CC (M.drop (j + 1))).flatten[i]? = some v → w.cell? ((if 64 = j + 1 then ⟨p, 0, none⟩ else ⟨p, (j + 1) * 6, none⟩ : Addr).add i) = some v := fun i v hv => by
    obtain ⟨m, r, k, hm, hk, rfl⟩ := (CC_wide hC).inv i v hv
    rw [CC, List.getElem?_map, Option.map_eq_some_iff] at hm
    obtain ⟨y, hy, rfl⟩ := hm
    rw [List.getElem?_drop] at hy
    have hlt := (List.getElem?_eq_some_iff.1 hy).1
    rw [if_neg (by omega), add_at, show (j + 1) * 6 + (m * 6 + k) = (j + 1 + m) * 6 + k by omega]
    exact hB.rc hy k v hk
  have hrun := run_copy_rowK (P := Try.prog) w 75 75 3 33 6 p (j * 6) (M.length - j) (64 - j) (if 64 = j + 1 then ⟨p, 0, none⟩ else ⟨p, (j + 1) * 6, none⟩) (M.length - (j + 1)) (64 - (j + 1)) _ 36 (CC (M.drop (j + 1))).flatten Try.underlying75 (by kernel_rfl) hB.box (by rw [lc]; congr 1; exact (Nat.min_eq_left (by omega)).symm) hsrc (by rw [lc, List.size_toArray, cellsW_length hB.fit]; omega) (CC_wide hC).one
  refine ⟨_, _, hrun, (Kept.refl [p] w).setRow (.inl (by simp)) _, ?_⟩
  exact setRow_heap w p (cellsW M).toArray ((cellsW M).toArray.toList.take (j * 6) ++ (CC (M.drop (j + 1))).flatten ++ (cellsW M).toArray.toList.drop (j * 6 + (CC (M.drop (j + 1))).flatten.length)).toArray 36 (0, 0) hB.box
theorem copied_length {M : List Cl} (h : Fit M) {j : Nat} (hj : j < M.length) : ((cellsW M).take (j * 6) ++ (CC (M.drop (j + 1))).flatten ++ (cellsW M).drop (j * 6 + (CC (M.drop (j + 1))).flatten.length)).length = 385 ∧ ((cellsW M).take (j * 6) ++ (CC (M.drop (j + 1))).flatten ++ (cellsW M).drop (j * 6 + (CC (M.drop (j + 1))).flatten.length))[384]? = some (.int .i64 (M.length : Int)) := by
  have hl64 := h.len
  have hC : Four (M.drop (j + 1)) := fun x hx => h.four x (List.mem_of_mem_drop hx)
  have lc : (CC (M.drop (j + 1))).flatten.length = (M.length - (j + 1)) * 6 := by rw [(CC_wide hC).flat_length, CC_length, List.length_drop]
  have hl := cellsW_length h
  have ht : ((cellsW M).take (j * 6) ++ (CC (M.drop (j + 1))).flatten).length = j * 6 + (CC (M.drop (j + 1))).flatten.length := by rw [List.length_append, List.length_take, hl]; congr 1; omega
  refine ⟨by rw [List.length_append, ht, List.length_drop, hl, lc]; omega, ?_⟩
  rw [List.getElem?_append_right (by rw [ht, lc]; omega), ht, List.getElem?_drop, show j * 6 + (CC (M.drop (j + 1))).flatten.length + (384 - (j * 6 + (CC (M.drop (j + 1))).flatten.length)) = 384 by rw [lc]; omega]
  exact cellsW_count h
section
variable {w : World} {p : Nat} {L : List Cl}
set_option maxRecDepth 100000 in
set_option maxHeartbeats 1000000 in
theorem ml24_some (hB : IsWd w p L) {J : Nat} {y : Cl} (hj : L[J]? = some y) {c : Nat} (hx : y.c = c) (hno : ∀ z ∈ L.take J, z.c ≠ c) : Calls Try.prog 24 #[.pointer (some ⟨p, 0, none⟩), Uv c] w fun e w' => e = .returned (.tuple #[]) ∧ IsWd w' p (mv L J y) ∧ Kept [p] w w' := by
  have HB := Hid.mk hB
  have hpl := hB.lt
  have hl64 := hB.fit.len
  have HJ := Hid.mk hj
  have HX := Hid.mk hx
  have HNO := Hid.mk hno
  have hy4 := hB.fit.four y (List.mem_of_getElem? hj)
  have hj := (List.getElem?_eq_some_iff.1 hj).1
  clear hB hx hno
  go_enter Try.func24, Try.ntmps24
  go_wp2_with fail
  obtain ⟨W0, e0, k0, hz0, hb0⟩ := box1 w (.cells #[.int .u64 (c : Int), .int .u64 0, .int .u64 0, .int .u64 0, .int .u64 0, .int .i64 0] 33)
  rw [e0]
  clear e0
  have hB0 := HB.out.kept0 k0
  refine (find27_some hB0 HJ.out HX.out HNO.out).mono ?_
  rintro e w1 ⟨rfl, rfl⟩
  obtain ⟨z1, z2, z3, z4, hy⟩ := cellsC_six hy4
  have hrc := hB0.rc HJ.out
  have r0 := hrc 0 _ (by rw [hy]; rfl)
  have r1 := hrc 1 _ (by rw [hy]; rfl)
  have r2 := hrc 2 _ (by rw [hy]; rfl)
  have r3 := hrc 3 _ (by rw [hy]; rfl)
  have r4 := hrc 4 _ (by rw [hy]; rfl)
  have r5 := hrc 5 _ (by rw [hy]; rfl)
  rw [Nat.add_zero] at r0
  obtain ⟨x0, x1, x2, x3, x4, x5⟩ := cells6 hb0
  obtain ⟨u0, u1, u2, u3, u4, u5⟩ := free6 hb0
  have gj0 : (0 : Int) ≤ (J : Int) := by omega
  have gj6 : (J : Int) < 64 := by omega
  have hput := put6_heap (o := 0) (Q := [.int .u64 (c : Int), .int .u64 0, .int .u64 0, .int .u64 0, .int .u64 0, .int .i64 0]) hb0 (Uv y.c) (Uv z1) (Uv z2) (Uv z3) (Uv z4) (.int .i64 (y.s.length : Int))
  have kput := (k0.mono (T := [w.heap.size]) (by simp)).trans (put6_kept W0 w.heap.size 0 (Uv y.c) (Uv z1) (Uv z2) (Uv z3) (Uv z4) (.int .i64 (y.s.length : Int))) (by simp)
  have HW : Hid (∃ W, (((((W0.setCell ⟨w.heap.size, 0, none⟩ (Uv y.c)).setCell ⟨w.heap.size, 1, none⟩ (Uv z1)).setCell ⟨w.heap.size, 2, none⟩ (Uv z2)).setCell ⟨w.heap.size, 3, none⟩ (Uv z3)).setCell ⟨w.heap.size, 4, none⟩ (Uv z4)).setCell ⟨w.heap.size, 5, none⟩ (.int .i64 (y.s.length : Int)) = W ∧ W.heap[w.heap.size]? = some (.cells #[Uv y.c, Uv z1, Uv z2, Uv z3, Uv z4, .int .i64 (y.s.length : Int)] 33 (0, 0)) ∧ Kept [] w W) := ⟨_, rfl, hput, kput.mono (by simp)⟩
  have HY := Hid.mk hy
  have HY4 := Hid.mk hy4
  clear hput kput hrc hy hB0 hy4 hb0 k0 hz0
  go_wp2_with fail
  obtain ⟨W, eW, hbx, kW⟩ := HW.out
  rw [eW]
  have HM : Hid (IsWd W p L) := HB.out.kept0 kW
  have HKw : Hid (Kept [p] w W) := kW.mono (by simp)
  have hy := HY.out
  have hy4 := HY4.out
  clear eW HW r0 r1 r2 r3 r4 r5 x0 x1 x2 x3 x4 x5 u0 u1 u2 u3 u4 u5 HY HY4 kW
  generalize y.s.length = ln at hbx hy
  generalize y.c = c0 at hbx hy
  have hM := HM.out
  have hn64 := hM.fit.len
  have hfo := Hid.mk hy4
  have hMd : IsWd W.drew p L := ⟨hM.box, hM.fit⟩
  obtain ⟨r3, W3, hrun, k3, h3⟩ := copy75 hMd hj
  have hsl2 : ∀ W : World, (Instr.sliceAt 34 (.pointer (some ⟨p, 0, none⟩)) (some (.int .i64 ((J : Int) + 1))) (some (.int .i64 (L.length : Int))) none).run Try.prog W = _ := slice34 p (J + 1) L.length (by omega) hn64
  generalize (if 64 = J + 1 then (⟨p, 0, none⟩ : Addr) else ⟨p, (J + 1) * 6, none⟩) = a2 at hrun hsl2
  generalize 64 - (J + 1) = c2 at hrun hsl2
  have hsl1 := slice34 p J L.length (by omega) hn64
  rw [if_neg (by omega)] at hsl1
  obtain ⟨hlen3, hcnt3⟩ := copied_length hM.fit hj
  have hmv := cellsW_mv hM.fit hj hfo.out
  have hfit : Hid (Fit (mv L J y)) := ⟨by rw [mv_length hj]; exact hn64, hM.fit.four.mv J hfo.out⟩
  have hcc := hM.count
  generalize (cellsW L).take (J * 6) ++ (CC (L.drop (J + 1))).flatten ++ (cellsW L).drop (J * 6 + (CC (L.drop (J + 1))).flatten.length) = R at h3 hlen3 hcnt3 hmv
  have hpb : p ≠ w.heap.size := by omega
  have hb3 := k3.keeps (w := W.drew) hbx (by simp; omega)
  have hc3 : W3.cell? ⟨p, 384, none⟩ = some (.int .i64 (L.length : Int)) := by unfold World.cell?; rw [h3]; simpa using hcnt3
  generalize hn : L.length = n at *
  obtain ⟨m, hm⟩ : ∃ m, n = m + 1 := ⟨n - 1, by omega⟩
  have hw1 : IntKind.i64.wrap ((J : Int) + 1) = (J : Int) + 1 := by rw [IntKind.wrap_i64]; omega
  have hw2 : IntKind.i64.wrap ((n : Int) - 1) = (m : Int) := by rw [IntKind.wrap_i64]; omega
  have g1 : (0 : Int) ≤ (J : Int) := by omega
  have g2 : (J : Int) ≤ (n : Int) := by omega
  have g3 : (J : Int) + 1 ≤ (n : Int) := by omega
  have g4 : (n : Int) ≤ 64 := by omega
  have g5 : (0 : Int) ≤ (J : Int) + 1 := by omega
  have S0 : W.drew.cell? ⟨p, 384, none⟩ = some (.int .i64 (n : Int)) := hcc
  rw [hy, show n - 1 = m by omega] at hmv
  have hany : ∀ i, i < 385 → ∃ v, W3.drew.cell? ⟨p, i, none⟩ = some v := fun i hi => ⟨R[i]'(by omega), by show W3.cell? _ = _; simp [World.cell?, h3, hlen3, hi]⟩
  have hfree : ∀ i, W3.drew.frozen? ⟨p, i, none⟩ = false := fun i => by show W3.frozen? _ = _; simp [World.frozen?, h3]
  obtain ⟨d0, hd0⟩ := hany (m * 6) (by omega)
  obtain ⟨d1, hd1⟩ := hany (m * 6 + 1) (by omega)
  obtain ⟨d2, hd2⟩ := hany (m * 6 + 2) (by omega)
  obtain ⟨d3, hd3⟩ := hany (m * 6 + 3) (by omega)
  obtain ⟨d4, hd4⟩ := hany (m * 6 + 4) (by omega)
  obtain ⟨d5, hd5⟩ := hany (m * 6 + 5) (by omega)
  have f0 := hfree (m * 6)
  have f1 := hfree (m * 6 + 1)
  have f2 := hfree (m * 6 + 2)
  have f3 := hfree (m * 6 + 3)
  have f4 := hfree (m * 6 + 4)
  have f5 := hfree (m * 6 + 5)
  have S3 : W3.drew.cell? ⟨p, 384, none⟩ = some (.int .i64 (n : Int)) ∧ W3.drew.cell? ⟨w.heap.size, 0, none⟩ = some (Uv c0) ∧ W3.drew.cell? ⟨w.heap.size, 1, none⟩ = some (Uv z1) ∧ W3.drew.cell? ⟨w.heap.size, 2, none⟩ = some (Uv z2) ∧ W3.drew.cell? ⟨w.heap.size, 3, none⟩ = some (Uv z3) ∧ W3.drew.cell? ⟨w.heap.size, 4, none⟩ = some (Uv z4) ∧ W3.drew.cell? ⟨w.heap.size, 5, none⟩ = some (.int .i64 (ln : Int)) := ⟨hc3, cells6 hb3⟩
  have S4 : (put6 W3 p (m * 6) (Uv c0) (Uv z1) (Uv z2) (Uv z3) (Uv z4) (.int .i64 (ln : Int))).drew.cell? ⟨p, 384, none⟩ = some (.int .i64 (n : Int)) ∧ (put6 W3 p (m * 6) (Uv c0) (Uv z1) (Uv z2) (Uv z3) (Uv z4) (.int .i64 (ln : Int))).drew.cell? ⟨w.heap.size, 0, none⟩ = some (Uv c0) ∧ (put6 W3 p (m * 6) (Uv c0) (Uv z1) (Uv z2) (Uv z3) (Uv z4) (.int .i64 (ln : Int))).drew.cell? ⟨w.heap.size, 1, none⟩ = some (Uv z1) ∧ (put6 W3 p (m * 6) (Uv c0) (Uv z1) (Uv z2) (Uv z3) (Uv z4) (.int .i64 (ln : Int))).drew.cell? ⟨w.heap.size, 2, none⟩ = some (Uv z2) ∧ (put6 W3 p (m * 6) (Uv c0) (Uv z1) (Uv z2) (Uv z3) (Uv z4) (.int .i64 (ln : Int))).drew.cell? ⟨w.heap.size, 3, none⟩ = some (Uv z3) ∧ (put6 W3 p (m * 6) (Uv c0) (Uv z1) (Uv z2) (Uv z3) (Uv z4) (.int .i64 (ln : Int))).drew.cell? ⟨w.heap.size, 4, none⟩ = some (Uv z4) ∧ (put6 W3 p (m * 6) (Uv c0) (Uv z1) (Uv z2) (Uv z3) (Uv z4) (.int .i64 (ln : Int))).drew.cell? ⟨w.heap.size, 5, none⟩ = some (.int .i64 (ln : Int)) := by
    have hq : ∀ a : Addr, (put6 W3 p (m * 6) (Uv c0) (Uv z1) (Uv z2) (Uv z3) (Uv z4) (.int .i64 (ln : Int))).drew.cell? a = (put6 W3 p (m * 6) (Uv c0) (Uv z1) (Uv z2) (Uv z3) (Uv z4) (.int .i64 (ln : Int))).cell? a := fun a => cell_drew _ a
    rw [hq, hq, hq, hq, hq, hq, hq]
    rw [put6_cell _ _ _ _ _ _ _ _ _ (by intro _; simp; omega), put6_cell _ _ _ _ _ _ _ _ _ (by simp; omega), put6_cell _ _ _ _ _ _ _ _ _ (by simp; omega), put6_cell _ _ _ _ _ _ _ _ _ (by simp; omega), put6_cell _ _ _ _ _ _ _ _ _ (by simp; omega), put6_cell _ _ _ _ _ _ _ _ _ (by simp; omega), put6_cell _ _ _ _ _ _ _ _ _ (by simp; omega)]
    exact S3
  have HR : Hid (∀ W, (((((W3.setCell ⟨p, m * 6, none⟩ (Uv c0)).setCell ⟨p, m * 6 + 1, none⟩ (Uv z1)).setCell ⟨p, m * 6 + 2, none⟩ (Uv z2)).setCell ⟨p, m * 6 + 3, none⟩ (Uv z3)).setCell ⟨p, m * 6 + 4, none⟩ (Uv z4)).setCell ⟨p, m * 6 + 5, none⟩ (.int .i64 (ln : Int)) = W → IsWd W.drew p (mv L J y) ∧ Kept [p] w W.drew) := by
    rintro _ rfl
    have h6 := put6_heap (o := m * 6) h3 (Uv c0) (Uv z1) (Uv z2) (Uv z3) (Uv z4) (.int .i64 (ln : Int))
    rw [hmv] at h6
    have h7 : IsWd (put6 W3 p (m * 6) (Uv c0) (Uv z1) (Uv z2) (Uv z3) (Uv z4) (.int .i64 (ln : Int))) p (mv L J y) := ⟨h6, hfit.out⟩
    exact ⟨h7.kept0 (Kept.refl [] _).drew, ((HKw.out.drew.trans k3 (by simp)).trans (put6_kept W3 p (m * 6) (Uv c0) (Uv z1) (Uv z2) (Uv z3) (Uv z4) (.int .i64 (ln : Int))) (by simp)).drew⟩
  have i0 : (0 : Int) ≤ (m : Int) := by omega
  have i1 : (m : Int) < 64 := by omega
  have e0 : W3.cell? ⟨p, m * 6, none⟩ = some d0 := hd0
  have e1 : W3.cell? ⟨p, m * 6 + 1, none⟩ = some d1 := hd1
  have e2 : W3.cell? ⟨p, m * 6 + 2, none⟩ = some d2 := hd2
  have e3 : W3.cell? ⟨p, m * 6 + 3, none⟩ = some d3 := hd3
  have e4 : W3.cell? ⟨p, m * 6 + 4, none⟩ = some d4 := hd4
  have e5 : W3.cell? ⟨p, m * 6 + 5, none⟩ = some d5 := hd5
  have q0 : W3.frozen? ⟨p, m * 6, none⟩ = false := f0
  have q1 : W3.frozen? ⟨p, m * 6 + 1, none⟩ = false := f1
  have q2 : W3.frozen? ⟨p, m * 6 + 2, none⟩ = false := f2
  have q3 : W3.frozen? ⟨p, m * 6 + 3, none⟩ = false := f3
  have q4 : W3.frozen? ⟨p, m * 6 + 4, none⟩ = false := f4
  have q5 : W3.frozen? ⟨p, m * 6 + 5, none⟩ = false := f5
  clear hM hMd hmv hcc hany hfree hb3 hbx HM HKw k3 h3 hlen3 hcnt3 hc3 hm hn hy hy4 hfit hn64
  go_wp2_with fail
  go_region_held3 (fun W => W.cell? ⟨p, 384, none⟩ = some (.int .i64 (n : Int))) (first | exact S0 | exact S3.1) (first | (refine step_copy_run 75 75 (.tmp 45) (.tmp 55) (by rfl) (by rfl) _ _ (by rfl) (by rfl) hrun ?_))
  clear S0 hrun hsl1 hsl2
  go_wp2_with fail
  go_region_held3 (fun W => W.cell? ⟨p, 384, none⟩ = some (.int .i64 (n : Int)) ∧ W.cell? ⟨w.heap.size, 0, none⟩ = some (Uv c0) ∧ W.cell? ⟨w.heap.size, 1, none⟩ = some (Uv z1) ∧ W.cell? ⟨w.heap.size, 2, none⟩ = some (Uv z2) ∧ W.cell? ⟨w.heap.size, 3, none⟩ = some (Uv z3) ∧ W.cell? ⟨w.heap.size, 4, none⟩ = some (Uv z4) ∧ W.cell? ⟨w.heap.size, 5, none⟩ = some (.int .i64 (ln : Int))) (first | with_reducible exact S3 | with_reducible exact S4) (fail)
  clear S3 S4
  go_wp2_with fail
  have HR2 := Hid.mk (HR.out _ rfl)
  generalize (((((W3.setCell ⟨p, m * 6, none⟩ (Uv c0)).setCell ⟨p, m * 6 + 1, none⟩ (Uv z1)).setCell ⟨p, m * 6 + 2, none⟩ (Uv z2)).setCell ⟨p, m * 6 + 3, none⟩ (Uv z3)).setCell ⟨p, m * 6 + 4, none⟩ (Uv z4)).setCell ⟨p, m * 6 + 5, none⟩ (.int .i64 (ln : Int)) = W5 at HR2 ⊢
  go_end0
  exact ⟨rfl, HR2.out⟩
end
end Go.Proofs.Ytngjljgcldfekaa
