/-
  makeLast of a client that is new.
-/
import Derived.Test.YtngjljgcldfekaaWm
namespace Go.Proofs.Ytngjljgcldfekaa
open Go.RowKit
set_option linter.unusedVariables false
section
variable {w : World} {p : Nat} {L : List Cl}
set_option maxRecDepth 100000 in
set_option maxHeartbeats 1000000 in
theorem ml24_new (hB : IsWd w p L) (h64 : L.length < 64) {c : Nat} (hno : ∀ z ∈ L, z.c ≠ c) : Calls Try.prog 24 #[.pointer (some ⟨p, 0, none⟩), Uv c] w fun e w' => e = .returned (.tuple #[]) ∧ IsWd w' p (mv (L ++ [zc]) L.length ⟨c, []⟩) ∧ Kept [p] w w' := by
  have HB := Hid.mk hB
  have hpl := hB.lt
  have hl64 := hB.fit.len
  have HNO := Hid.mk hno
  have hc := hB.count
  have hmore := cellsW_more h64 hB.fit.four
  have hfit : Fit (L ++ [zc]) := ⟨by simp; omega, fun x hx => by
    rcases List.mem_append.1 hx with h | h
    · exact hB.fit.four x h
    · simp at h; subst h; simp [zc]⟩
  have hj : L.length < (L ++ [zc]).length := by simp
  clear hB hno
  generalize hJ : L.length = J at *
  generalize L ++ [zc] = M at *
  go_enter Try.func24, Try.ntmps24
  go_wp2_with fail
  obtain ⟨W0, e0, k0, hz0, hb0⟩ := box1 w (.cells #[.int .u64 (c : Int), .int .u64 0, .int .u64 0, .int .u64 0, .int .u64 0, .int .i64 0] 33)
  rw [e0]
  clear e0
  have hB0 := HB.out.kept0 k0
  refine (find27_none hB0 HNO.out).mono ?_
  rintro e w1 ⟨rfl, rfl⟩
  have hc0 := k0.cell_eq hc
  have hf0 := hB0.free 384
  have hb1 := set_list (k := 384) (x := .int .i64 ((J + 1 : Nat) : Int)) hB0.box
  rw [hmore] at hb1
  have k1 := (k0.mono (T := [p]) (by simp)).setCell (p := ⟨p, 384, none⟩) (.inl (by simp)) (.int .i64 ((J + 1 : Nat) : Int))
  have hbx := (Below.heap_setCell W0 ⟨p, 384, none⟩ (.int .i64 ((J + 1 : Nat) : Int)) w.heap.size (by show w.heap.size ≠ p; omega)).trans hb0
  have HW0 : Hid (∃ W, W0.setCell ⟨p, 384, none⟩ (.int .i64 ((J : Int) + 1)) = W ∧ IsWd W p M ∧ Kept [p] w W ∧ W.heap[w.heap.size]? = some (.cells #[.int .u64 (c : Int), .int .u64 0, .int .u64 0, .int .u64 0, .int .u64 0, .int .i64 0] 33 (0, 0))) := ⟨_, rfl, ⟨hb1, hfit⟩, k1, hbx⟩
  have hne : ((J : Int) == 64) = false := by simp; omega
  clear hc hB0 k0 hb1 k1 hbx hb0 hz0 hmore hfit
  go_wp2_with fail
  obtain ⟨W, eW, HM', HKw', hbx⟩ := HW0.out
  rw [eW]
  have HM := Hid.mk HM'
  have HKw := Hid.mk HKw'
  have hy : cellsC ⟨c, []⟩ = [Uv c, .int .u64 0, .int .u64 0, .int .u64 0, .int .u64 0, .int .i64 0] := rfl
  have hy4 : (⟨c, []⟩ : Cl).s.length ≤ 4 := by simp
  clear hc0 HW0 hne HM' HKw' eW hf0
  have hM := HM.out
  have hn64 := hM.fit.len
  have hfo := Hid.mk hy4
  have hMd : IsWd W.drew p M := ⟨hM.box, hM.fit⟩
  obtain ⟨r3, W3, hrun, k3, h3⟩ := copy75 hMd hj
  have hsl2 : ∀ W : World, (Instr.sliceAt 34 (.pointer (some ⟨p, 0, none⟩)) (some (.int .i64 ((J : Int) + 1))) (some (.int .i64 (M.length : Int))) none).run Try.prog W = _ := slice34 p (J + 1) M.length (by omega) hn64
  generalize (if 64 = J + 1 then (⟨p, 0, none⟩ : Addr) else ⟨p, (J + 1) * 6, none⟩) = a2 at hrun hsl2
  generalize 64 - (J + 1) = c2 at hrun hsl2
  have hsl1 := slice34 p J M.length (by omega) hn64
  rw [if_neg (by omega)] at hsl1
  obtain ⟨hlen3, hcnt3⟩ := copied_length hM.fit hj
  have hmv := cellsW_mv hM.fit hj hfo.out
  have hfit : Hid (Fit (mv M J ⟨c, []⟩)) := ⟨by rw [mv_length hj]; exact hn64, hM.fit.four.mv J hfo.out⟩
  have hcc := hM.count
  generalize (cellsW M).take (J * 6) ++ (CC (M.drop (J + 1))).flatten ++ (cellsW M).drop (J * 6 + (CC (M.drop (J + 1))).flatten.length) = R at h3 hlen3 hcnt3 hmv
  have hpb : p ≠ w.heap.size := by omega
  have hb3 := k3.keeps (w := W.drew) hbx (by simp; omega)
  have hc3 : W3.cell? ⟨p, 384, none⟩ = some (.int .i64 (M.length : Int)) := by unfold World.cell?; rw [h3]; simpa using hcnt3
  generalize hn : M.length = n at *
  obtain ⟨m, hm⟩ : ∃ m, n = m + 1 := ⟨n - 1, by omega⟩
  have hw1 : IntKind.i64.wrap ((J : Int) + 1) = (J : Int) + 1 := by rw [IntKind.wrap_i64]; omega
  have hw2 : IntKind.i64.wrap ((n : Int) - 1) = (m : Int) := by rw [IntKind.wrap_i64]; omega
  have g1 : (0 : Int) ≤ (J : Int) := by omega
  have g2 : (J : Int) ≤ (n : Int) := by omega
  have g3 : (J : Int) + 1 ≤ (n : Int) := by omega
  have g4 : (n : Int) ≤ 64 := by omega
  have g5 : (0 : Int) ≤ (J : Int) + 1 := by omega
  have S0 : W.drew.cell? ⟨p, 384, none⟩ = some (.int .i64 (n : Int)) := hcc
  rw [hy, show n - 1 = m by omega] at hmv
  have hany : ∀ i, i < 385 → ∃ v, W3.drew.cell? ⟨p, i, none⟩ = some v := fun i hi => ⟨R[i]'(by omega), by show W3.cell? _ = _; simp [World.cell?, h3, hlen3, hi]⟩
  have hfree : ∀ i, W3.drew.frozen? ⟨p, i, none⟩ = false := fun i => by show W3.frozen? _ = _; simp [World.frozen?, h3]
  obtain ⟨d0, hd0⟩ := hany (m * 6) (by omega)
  obtain ⟨d1, hd1⟩ := hany (m * 6 + 1) (by omega)
  obtain ⟨d2, hd2⟩ := hany (m * 6 + 2) (by omega)
  obtain ⟨d3, hd3⟩ := hany (m * 6 + 3) (by omega)
  obtain ⟨d4, hd4⟩ := hany (m * 6 + 4) (by omega)
  obtain ⟨d5, hd5⟩ := hany (m * 6 + 5) (by omega)
  have f0 := hfree (m * 6)
  have f1 := hfree (m * 6 + 1)
  have f2 := hfree (m * 6 + 2)
  have f3 := hfree (m * 6 + 3)
  have f4 := hfree (m * 6 + 4)
  have f5 := hfree (m * 6 + 5)
  have S3 : W3.drew.cell? ⟨p, 384, none⟩ = some (.int .i64 (n : Int)) ∧ W3.drew.cell? ⟨w.heap.size, 0, none⟩ = some (Uv c) ∧ W3.drew.cell? ⟨w.heap.size, 1, none⟩ = some (.int .u64 0) ∧ W3.drew.cell? ⟨w.heap.size, 2, none⟩ = some (.int .u64 0) ∧ W3.drew.cell? ⟨w.heap.size, 3, none⟩ = some (.int .u64 0) ∧ W3.drew.cell? ⟨w.heap.size, 4, none⟩ = some (.int .u64 0) ∧ W3.drew.cell? ⟨w.heap.size, 5, none⟩ = some (.int .i64 0) := ⟨hc3, cells6 hb3⟩
  have S4 : (put6 W3 p (m * 6) (Uv c) (.int .u64 0) (.int .u64 0) (.int .u64 0) (.int .u64 0) (.int .i64 0)).drew.cell? ⟨p, 384, none⟩ = some (.int .i64 (n : Int)) ∧ (put6 W3 p (m * 6) (Uv c) (.int .u64 0) (.int .u64 0) (.int .u64 0) (.int .u64 0) (.int .i64 0)).drew.cell? ⟨w.heap.size, 0, none⟩ = some (Uv c) ∧ (put6 W3 p (m * 6) (Uv c) (.int .u64 0) (.int .u64 0) (.int .u64 0) (.int .u64 0) (.int .i64 0)).drew.cell? ⟨w.heap.size, 1, none⟩ = some (.int .u64 0) ∧ (put6 W3 p (m * 6) (Uv c) (.int .u64 0) (.int .u64 0) (.int .u64 0) (.int .u64 0) (.int .i64 0)).drew.cell? ⟨w.heap.size, 2, none⟩ = some (.int .u64 0) ∧ (put6 W3 p (m * 6) (Uv c) (.int .u64 0) (.int .u64 0) (.int .u64 0) (.int .u64 0) (.int .i64 0)).drew.cell? ⟨w.heap.size, 3, none⟩ = some (.int .u64 0) ∧ (put6 W3 p (m * 6) (Uv c) (.int .u64 0) (.int .u64 0) (.int .u64 0) (.int .u64 0) (.int .i64 0)).drew.cell? ⟨w.heap.size, 4, none⟩ = some (.int .u64 0) ∧ (put6 W3 p (m * 6) (Uv c) (.int .u64 0) (.int .u64 0) (.int .u64 0) (.int .u64 0) (.int .i64 0)).drew.cell? ⟨w.heap.size, 5, none⟩ = some (.int .i64 0) := by
    have hq : ∀ a : Addr, (put6 W3 p (m * 6) (Uv c) (.int .u64 0) (.int .u64 0) (.int .u64 0) (.int .u64 0) (.int .i64 0)).drew.cell? a = (put6 W3 p (m * 6) (Uv c) (.int .u64 0) (.int .u64 0) (.int .u64 0) (.int .u64 0) (.int .i64 0)).cell? a := fun a => cell_drew _ a
    rw [hq, hq, hq, hq, hq, hq, hq]
    rw [put6_cell _ _ _ _ _ _ _ _ _ (by intro _; simp; omega), put6_cell _ _ _ _ _ _ _ _ _ (by simp; omega), put6_cell _ _ _ _ _ _ _ _ _ (by simp; omega), put6_cell _ _ _ _ _ _ _ _ _ (by simp; omega), put6_cell _ _ _ _ _ _ _ _ _ (by simp; omega), put6_cell _ _ _ _ _ _ _ _ _ (by simp; omega), put6_cell _ _ _ _ _ _ _ _ _ (by simp; omega)]
    exact S3
  have HR : Hid (∀ W, (((((W3.setCell ⟨p, m * 6, none⟩ (Uv c)).setCell ⟨p, m * 6 + 1, none⟩ (.int .u64 0)).setCell ⟨p, m * 6 + 2, none⟩ (.int .u64 0)).setCell ⟨p, m * 6 + 3, none⟩ (.int .u64 0)).setCell ⟨p, m * 6 + 4, none⟩ (.int .u64 0)).setCell ⟨p, m * 6 + 5, none⟩ (.int .i64 0) = W → IsWd W.drew p (mv M J ⟨c, []⟩) ∧ Kept [p] w W.drew) := by
    rintro _ rfl
    have h6 := put6_heap (o := m * 6) h3 (Uv c) (.int .u64 0) (.int .u64 0) (.int .u64 0) (.int .u64 0) (.int .i64 0)
    rw [hmv] at h6
    have h7 : IsWd (put6 W3 p (m * 6) (Uv c) (.int .u64 0) (.int .u64 0) (.int .u64 0) (.int .u64 0) (.int .i64 0)) p (mv M J ⟨c, []⟩) := ⟨h6, hfit.out⟩
    exact ⟨h7.kept0 (Kept.refl [] _).drew, ((HKw.out.drew.trans k3 (by simp)).trans (put6_kept W3 p (m * 6) (Uv c) (.int .u64 0) (.int .u64 0) (.int .u64 0) (.int .u64 0) (.int .i64 0)) (by simp)).drew⟩
  have i0 : (0 : Int) ≤ (m : Int) := by omega
  have i1 : (m : Int) < 64 := by omega
  have e0 : W3.cell? ⟨p, m * 6, none⟩ = some d0 := hd0
  have e1 : W3.cell? ⟨p, m * 6 + 1, none⟩ = some d1 := hd1
  have e2 : W3.cell? ⟨p, m * 6 + 2, none⟩ = some d2 := hd2
  have e3 : W3.cell? ⟨p, m * 6 + 3, none⟩ = some d3 := hd3
  have e4 : W3.cell? ⟨p, m * 6 + 4, none⟩ = some d4 := hd4
  have e5 : W3.cell? ⟨p, m * 6 + 5, none⟩ = some d5 := hd5
  have q0 : W3.frozen? ⟨p, m * 6, none⟩ = false := f0
  have q1 : W3.frozen? ⟨p, m * 6 + 1, none⟩ = false := f1
  have q2 : W3.frozen? ⟨p, m * 6 + 2, none⟩ = false := f2
  have q3 : W3.frozen? ⟨p, m * 6 + 3, none⟩ = false := f3
  have q4 : W3.frozen? ⟨p, m * 6 + 4, none⟩ = false := f4
  have q5 : W3.frozen? ⟨p, m * 6 + 5, none⟩ = false := f5
  clear hM hMd hmv hcc hany hfree hb3 hbx HM HKw k3 h3 hlen3 hcnt3 hc3 hm hn hy hy4 hfit hn64
  go_wp2_with fail
  go_region_held3 (fun W => W.cell? ⟨p, 384, none⟩ = some (.int .i64 (n : Int))) (first | exact S0 | exact S3.1) (first | (refine step_copy_run 75 75 (.tmp 45) (.tmp 55) (by rfl) (by rfl) _ _ (by rfl) (by rfl) hrun ?_))
  clear S0 hrun hsl1 hsl2
  go_wp2_with fail
  go_region_held3 (fun W => W.cell? ⟨p, 384, none⟩ = some (.int .i64 (n : Int)) ∧ W.cell? ⟨w.heap.size, 0, none⟩ = some (Uv c) ∧ W.cell? ⟨w.heap.size, 1, none⟩ = some (.int .u64 0) ∧ W.cell? ⟨w.heap.size, 2, none⟩ = some (.int .u64 0) ∧ W.cell? ⟨w.heap.size, 3, none⟩ = some (.int .u64 0) ∧ W.cell? ⟨w.heap.size, 4, none⟩ = some (.int .u64 0) ∧ W.cell? ⟨w.heap.size, 5, none⟩ = some (.int .i64 0)) (first | with_reducible exact S3 | with_reducible exact S4) (fail)
  clear S3 S4
  go_wp2_with fail
  have HR2 := Hid.mk (HR.out _ rfl)
  generalize (((((W3.setCell ⟨p, m * 6, none⟩ (Uv c)).setCell ⟨p, m * 6 + 1, none⟩ (.int .u64 0)).setCell ⟨p, m * 6 + 2, none⟩ (.int .u64 0)).setCell ⟨p, m * 6 + 3, none⟩ (.int .u64 0)).setCell ⟨p, m * 6 + 4, none⟩ (.int .u64 0)).setCell ⟨p, m * 6 + 5, none⟩ (.int .i64 0) = W5 at HR2 ⊢
  go_end0
  exact ⟨rfl, HR2.out⟩
end
end Go.Proofs.Ytngjljgcldfekaa
