/-
  makeLast of a client that is new, where there is no room.
-/
import Derived.Test.YtngjljgcldfekaaWm
namespace Go.Proofs.Ytngjljgcldfekaa
open Go.RowKit
set_option linter.unusedVariables false
section
variable {w : World} {p : Nat} {L : List Cl}
set_option maxRecDepth 100000 in
set_option maxHeartbeats 1000000 in
theorem ml24_full (hB : IsWd w p L) (h64 : L.length = 64) {c : Nat} (hno : ∀ z ∈ L, z.c ≠ c) : Calls Try.prog 24 #[.pointer (some ⟨p, 0, none⟩), Uv c] w fun e w' => e = .returned (.tuple #[]) ∧ IsWd w' p (mv L 0 ⟨c, []⟩) ∧ Kept [p] w w' := by
  have HB := Hid.mk hB
  have hpl := hB.lt
  have hl64 := hB.fit.len
  have HNO := Hid.mk hno
  have hj : 0 < L.length := by omega
  have H64 := Hid.mk h64
  have hc := hB.count
  rw [h64] at hc
  clear hB hno h64
  go_enter Try.func24, Try.ntmps24
  go_wp2_with fail
  obtain ⟨W0, e0, k0, hz0, hb0⟩ := box1 w (.cells #[.int .u64 (c : Int), .int .u64 0, .int .u64 0, .int .u64 0, .int .u64 0, .int .i64 0] 33)
  rw [e0]
  clear e0
  have hB0 := HB.out.kept0 k0
  refine (find27_none hB0 HNO.out).mono ?_
  rintro e w1 ⟨rfl, rfl⟩
  have hc0 := k0.cell_eq hc
  have HW0 : Hid (IsWd W0 p L ∧ Kept [p] w W0) := ⟨hB0, k0.mono (by simp)⟩
  clear hc hB0 k0
  go_wp2_with fail
  have HM : Hid (IsWd W0 p L) := HW0.out.1
  have HKw : Hid (Kept [p] w W0) := HW0.out.2
  have hy : cellsC ⟨c, []⟩ = [Uv c, .int .u64 0, .int .u64 0, .int .u64 0, .int .u64 0, .int .i64 0] := rfl
  have hy4 : (⟨c, []⟩ : Cl).s.length ≤ 4 := by simp
  have hbx := hb0
  clear hc0 HW0 hb0 hz0
  have hM := HM.out
  have hn64 := hM.fit.len
  have hfo := Hid.mk hy4
  have hMd : IsWd W0.drew p L := ⟨hM.box, hM.fit⟩
  obtain ⟨r3, W3, hrun, k3, h3⟩ := copy75 hMd hj
  rw [H64.out] at hrun
  have hrun : (Builtin.copy_ #[75, 75] 3 #[.slice (some ⟨p, 0, none⟩) 64 64, .slice (some ⟨p, 6, none⟩) 63 63]).run Try.prog W0.drew = .ok r3 W3 := hrun
  obtain ⟨hlen3, hcnt3⟩ := copied_length hM.fit hj
  have hmv := cellsW_mv hM.fit hj hfo.out
  have hfit : Hid (Fit (mv L 0 ⟨c, []⟩)) := ⟨by rw [mv_length hj]; exact hn64, hM.fit.four.mv 0 hfo.out⟩
  have hcc := hM.count
  generalize (cellsW L).take (0 * 6) ++ (CC (L.drop (0 + 1))).flatten ++ (cellsW L).drop (0 * 6 + (CC (L.drop (0 + 1))).flatten.length) = R at h3 hlen3 hcnt3 hmv
  have hpb : p ≠ w.heap.size := by omega
  have hb3 := k3.keeps (w := W0.drew) hbx (by first | (simp; omega) | simp)
  have hc3 : W3.cell? ⟨p, 384, none⟩ = some (.int .i64 (L.length : Int)) := by unfold World.cell?; rw [h3]; simpa using hcnt3
  rw [H64.out] at *
  have S0 : W0.drew.cell? ⟨p, 384, none⟩ = some (.int .i64 64) := hcc
  rw [hy] at hmv
  have hany : ∀ i, i < 385 → ∃ v, W3.drew.cell? ⟨p, i, none⟩ = some v := fun i hi => ⟨R[i]'(by omega), by show W3.cell? _ = _; simp [World.cell?, h3, hlen3, hi]⟩
  have hfree : ∀ i, W3.drew.frozen? ⟨p, i, none⟩ = false := fun i => by show W3.frozen? _ = _; simp [World.frozen?, h3]
  obtain ⟨d0, hd0⟩ := hany (378) (by omega)
  obtain ⟨d1, hd1⟩ := hany (379) (by omega)
  obtain ⟨d2, hd2⟩ := hany (380) (by omega)
  obtain ⟨d3, hd3⟩ := hany (381) (by omega)
  obtain ⟨d4, hd4⟩ := hany (382) (by omega)
  obtain ⟨d5, hd5⟩ := hany (383) (by omega)
  have f0 := hfree (378)
  have f1 := hfree (379)
  have f2 := hfree (380)
  have f3 := hfree (381)
  have f4 := hfree (382)
  have f5 := hfree (383)
  have S3 : W3.drew.cell? ⟨p, 384, none⟩ = some (.int .i64 64) ∧ W3.drew.cell? ⟨w.heap.size, 0, none⟩ = some (Uv c) ∧ W3.drew.cell? ⟨w.heap.size, 1, none⟩ = some (.int .u64 0) ∧ W3.drew.cell? ⟨w.heap.size, 2, none⟩ = some (.int .u64 0) ∧ W3.drew.cell? ⟨w.heap.size, 3, none⟩ = some (.int .u64 0) ∧ W3.drew.cell? ⟨w.heap.size, 4, none⟩ = some (.int .u64 0) ∧ W3.drew.cell? ⟨w.heap.size, 5, none⟩ = some (.int .i64 0) := ⟨hc3, cells6 hb3⟩
  have S4 : (put6 W3 p 378 (Uv c) (.int .u64 0) (.int .u64 0) (.int .u64 0) (.int .u64 0) (.int .i64 0)).drew.cell? ⟨p, 384, none⟩ = some (.int .i64 64) ∧ (put6 W3 p 378 (Uv c) (.int .u64 0) (.int .u64 0) (.int .u64 0) (.int .u64 0) (.int .i64 0)).drew.cell? ⟨w.heap.size, 0, none⟩ = some (Uv c) ∧ (put6 W3 p 378 (Uv c) (.int .u64 0) (.int .u64 0) (.int .u64 0) (.int .u64 0) (.int .i64 0)).drew.cell? ⟨w.heap.size, 1, none⟩ = some (.int .u64 0) ∧ (put6 W3 p 378 (Uv c) (.int .u64 0) (.int .u64 0) (.int .u64 0) (.int .u64 0) (.int .i64 0)).drew.cell? ⟨w.heap.size, 2, none⟩ = some (.int .u64 0) ∧ (put6 W3 p 378 (Uv c) (.int .u64 0) (.int .u64 0) (.int .u64 0) (.int .u64 0) (.int .i64 0)).drew.cell? ⟨w.heap.size, 3, none⟩ = some (.int .u64 0) ∧ (put6 W3 p 378 (Uv c) (.int .u64 0) (.int .u64 0) (.int .u64 0) (.int .u64 0) (.int .i64 0)).drew.cell? ⟨w.heap.size, 4, none⟩ = some (.int .u64 0) ∧ (put6 W3 p 378 (Uv c) (.int .u64 0) (.int .u64 0) (.int .u64 0) (.int .u64 0) (.int .i64 0)).drew.cell? ⟨w.heap.size, 5, none⟩ = some (.int .i64 0) := by
    have hq : ∀ a : Addr, (put6 W3 p 378 (Uv c) (.int .u64 0) (.int .u64 0) (.int .u64 0) (.int .u64 0) (.int .i64 0)).drew.cell? a = (put6 W3 p 378 (Uv c) (.int .u64 0) (.int .u64 0) (.int .u64 0) (.int .u64 0) (.int .i64 0)).cell? a := fun a => cell_drew _ a
    rw [hq, hq, hq, hq, hq, hq, hq]
    rw [put6_cell _ _ _ _ _ _ _ _ _ (by intro _; first | (simp; omega) | simp), put6_cell _ _ _ _ _ _ _ _ _ (by first | (simp; omega) | simp), put6_cell _ _ _ _ _ _ _ _ _ (by first | (simp; omega) | simp), put6_cell _ _ _ _ _ _ _ _ _ (by first | (simp; omega) | simp), put6_cell _ _ _ _ _ _ _ _ _ (by first | (simp; omega) | simp), put6_cell _ _ _ _ _ _ _ _ _ (by first | (simp; omega) | simp), put6_cell _ _ _ _ _ _ _ _ _ (by first | (simp; omega) | simp)]
    exact S3
  have HR : Hid (∀ W, (((((W3.setCell ⟨p, 378, none⟩ (Uv c)).setCell ⟨p, 379, none⟩ (.int .u64 0)).setCell ⟨p, 380, none⟩ (.int .u64 0)).setCell ⟨p, 381, none⟩ (.int .u64 0)).setCell ⟨p, 382, none⟩ (.int .u64 0)).setCell ⟨p, 383, none⟩ (.int .i64 0) = W → IsWd W.drew p (mv L 0 ⟨c, []⟩) ∧ Kept [p] w W.drew) := by
    rintro _ rfl
    have h6 := put6_heap (o := 378) h3 (Uv c) (.int .u64 0) (.int .u64 0) (.int .u64 0) (.int .u64 0) (.int .i64 0)
    rw [hmv] at h6
    have h7 : IsWd (put6 W3 p 378 (Uv c) (.int .u64 0) (.int .u64 0) (.int .u64 0) (.int .u64 0) (.int .i64 0)) p (mv L 0 ⟨c, []⟩) := ⟨h6, hfit.out⟩
    exact ⟨h7.kept0 (Kept.refl [] _).drew, ((HKw.out.drew.trans k3 (by simp)).trans (put6_kept W3 p 378 (Uv c) (.int .u64 0) (.int .u64 0) (.int .u64 0) (.int .u64 0) (.int .i64 0)) (by simp)).drew⟩
  have hw1 : IntKind.i64.wrap 1 = 1 := by decide
  have hw2 : IntKind.i64.wrap 63 = 63 := by decide
  have i0 : (0 : Int) ≤ 63 := by omega
  have i1 : 63 < 64 := by omega
  have e0 : W3.cell? ⟨p, 378, none⟩ = some d0 := hd0
  have e1 : W3.cell? ⟨p, 379, none⟩ = some d1 := hd1
  have e2 : W3.cell? ⟨p, 380, none⟩ = some d2 := hd2
  have e3 : W3.cell? ⟨p, 381, none⟩ = some d3 := hd3
  have e4 : W3.cell? ⟨p, 382, none⟩ = some d4 := hd4
  have e5 : W3.cell? ⟨p, 383, none⟩ = some d5 := hd5
  have q0 : W3.frozen? ⟨p, 378, none⟩ = false := f0
  have q1 : W3.frozen? ⟨p, 379, none⟩ = false := f1
  have q2 : W3.frozen? ⟨p, 380, none⟩ = false := f2
  have q3 : W3.frozen? ⟨p, 381, none⟩ = false := f3
  have q4 : W3.frozen? ⟨p, 382, none⟩ = false := f4
  have q5 : W3.frozen? ⟨p, 383, none⟩ = false := f5
  clear hM hMd hmv hcc hany hfree hb3 hbx HM HKw k3 h3 hlen3 hcnt3 hc3 hy hy4 hfit hn64
  go_wp2_with fail
  go_region_held3 (fun W => W.cell? ⟨p, 384, none⟩ = some (.int .i64 64)) (first | exact S0 | exact S3.1) (first | (refine step_copy_run 75 75 (.tmp 45) (.tmp 55) (by rfl) (by rfl) _ _ (by rfl) (by rfl) hrun ?_))
  clear S0 hrun
  go_wp2_with fail
  go_region_held3 (fun W => W.cell? ⟨p, 384, none⟩ = some (.int .i64 64) ∧ W.cell? ⟨w.heap.size, 0, none⟩ = some (Uv c) ∧ W.cell? ⟨w.heap.size, 1, none⟩ = some (.int .u64 0) ∧ W.cell? ⟨w.heap.size, 2, none⟩ = some (.int .u64 0) ∧ W.cell? ⟨w.heap.size, 3, none⟩ = some (.int .u64 0) ∧ W.cell? ⟨w.heap.size, 4, none⟩ = some (.int .u64 0) ∧ W.cell? ⟨w.heap.size, 5, none⟩ = some (.int .i64 0)) (first | with_reducible exact S3 | with_reducible exact S4) (fail)
  clear S3 S4
  go_wp2_with fail
  have HR2 := Hid.mk (HR.out _ rfl)
  generalize (((((W3.setCell ⟨p, 378, none⟩ (Uv c)).setCell ⟨p, 379, none⟩ (.int .u64 0)).setCell ⟨p, 380, none⟩ (.int .u64 0)).setCell ⟨p, 381, none⟩ (.int .u64 0)).setCell ⟨p, 382, none⟩ (.int .u64 0)).setCell ⟨p, 383, none⟩ (.int .i64 0) = W5 at HR2 ⊢
  go_end0
  exact ⟨rfl, HR2.out⟩
end
end Go.Proofs.Ytngjljgcldfekaa
