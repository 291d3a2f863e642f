/-
  remove of a queue.
-/
import Derived.Test.YtmjbkhcfdojpeaaQf
namespace Go.Proofs.Ytmjbkhcfdojpeaa
set_option maxRecDepth 100000
open Go.RowKit Go.Shelf
set_option linter.unusedVariables false
section
variable {w : World} {p : Nat} {Q : List Rm}
set_option maxHeartbeats 1000000 in
theorem remove50 (hB : IsQ w p Q) {j : Nat} (hj : j < Q.length) : Calls Try.prog 50 #[.pointer (some ⟨p, 0, none⟩), Iv (j : Int)] w fun e w' => e = .returned (.tuple #[]) ∧ IsQ w' p (Q.take j ++ Q.drop (j + 1)) ∧ Kept [p] w w' := by
  have hlen := hB.len
  obtain ⟨m, hm⟩ : ∃ m, Q.length = m + 1 := ⟨Q.length - 1, by omega⟩
  have hBd := hB.kept0 (Kept.refl [] w).drew
  have hsl1 : ∀ W : World, (Instr.sliceAt 28 (.pointer (some ⟨p, 0, none⟩)) (some (.int .i64 (j : Int))) none none).run Try.prog W = _ := slice28l p j (by omega)
  have hsl2 : ∀ W : World, (Instr.sliceAt 28 (.pointer (some ⟨p, 0, none⟩)) (some (.int .i64 ((j : Int) + 1))) (some (.int .i64 (Q.length : Int))) none).run Try.prog W = _ := slice28lh p (j + 1) Q.length (by omega) (by omega)
  rw [if_neg (by omega)] at hsl1
  obtain ⟨r3, W3, hrun, k3, h3⟩ := copyQ hBd (t := j) (P := j + 1) (by omega) (by omega) ⟨p, j * 5, none⟩ (if 64 = j + 1 then ⟨p, 0, none⟩ else ⟨p, (j + 1) * 5, none⟩) (fun _ => rfl) (fun h => if_neg (by omega))
  generalize (if 64 = j + 1 then (⟨p, 0, none⟩ : Addr) else ⟨p, (j + 1) * 5, none⟩) = a2 at hrun hsl2
  have S2 := hBd.count
  have S3 : W3.cell? ⟨p, 320, none⟩ = some (Iv (Q.length : Int)) := cell_list h3 (movN_count (by omega) (by omega) (by omega))
  have hw1 : IntKind.i64.wrap ((j : Int) + 1) = (j : Int) + 1 := by rw [IntKind.wrap_i64]; omega
  have hI := cellsN_del hlen hj
  have hL := movN_length (Q := Q) (t := j) (P := j + 1) (by omega) (by omega) (by omega)
  have u3 : W3.frozen? ⟨p, 320, none⟩ = false := by simp [World.frozen?, h3]
  have h4 := set_list (k := 320) (x := Iv ((Q.length - 1 : Nat) : Int)) h3
  have k4 := k3.setCell (p := ⟨p, 320, none⟩) (.inl (by simp)) (Iv ((Q.length - 1 : Nat) : Int))
  have k04 : Kept [p] w (W3.setCell ⟨p, 320, none⟩ (Iv ((Q.length - 1 : Nat) : Int))) := (Kept.refl [p] w).drew.trans k4 (by simp)
  have HW : Hid (∃ W4, W3.setCell ⟨p, 320, none⟩ (Iv (m : Int)) = W4 ∧ Kept [p] w W4 ∧ W4.heap[p]? = some (.cells ((movN Q j (j + 1)).set 320 (Iv (m : Int))).toArray 30 (0, 0))) := by
    rw [show Q.length - 1 = m by omega] at h4 k04
    exact ⟨_, rfl, k04, h4⟩
  rw [show Q.length - 1 = m by omega] at hI
  have HI := Hid.mk hI
  have HL := Hid.mk hL
  have g0 : (0 : Int) ≤ (j : Int) := by omega
  have g1 : (j : Int) < 64 := by omega
  have q0 : (j : Int) + 1 ≤ (Q.length : Int) := by omega
  have q2 : (Q.length : Int) ≤ 64 := by omega
  have q3 : (0 : Int) ≤ (Q.length : Int) := by omega
  have hm1 : (Q.length : Int) - 1 = (m : Int) := by omega
  have m0 : (0 : Int) ≤ (m : Int) := by omega
  have m1 : (m : Int) < 64 := by omega
  have HT : Hid ((Q.take j ++ Q.drop (j + 1)).length ≤ 64) := Hid.mk (by rw [List.length_append, List.length_take, List.length_drop]; omega)
  have hmm : m < 64 := by omega
  clear hI hL hB hBd hm h3 h4 k4 k04 k3
  generalize 64 - j = c1 at hrun hsl1
  generalize 64 - (j + 1) = c2 at hrun hsl2
  go_enter Try.func50, Try.ntmps50
  go_wp2_with fail
  go_region_held3 (fun W => W.cell? ⟨p, 320, none⟩ = some (.int .i64 (Q.length : Int))) (first | with_reducible exact S2 | with_reducible exact S3) (first | (refine step_copy_run 47 47 (.tmp 8) (.tmp 18) (by rfl) (by rfl) _ _ (by rfl) (by rfl) hrun ?_))
  clear hrun hsl1 hsl2 S2
  go_wp2_with fail
  obtain ⟨W4, e4, k4, h4⟩ := HW.out
  rw [e4]
  clear e4 HW S3 u3
  have hL4 : ((movN Q j (j + 1)).set 320 (Iv (m : Int))).length = 321 := by rw [List.length_set]; exact HL.out
  have S4 : W4.drew.cell? ⟨p, 320, none⟩ = some (Iv (m : Int)) := cell_list (w := W4.drew) h4 (List.getElem?_set_self (by rw [HL.out]; omega))
  have hany : ∀ i, i < 321 → ∃ v, W4.cell? ⟨p, i, none⟩ = some v := fun i hi => ⟨_, cell_list h4 (List.getElem?_eq_getElem (by rw [hL4]; exact hi))⟩
  obtain ⟨d0, hd0⟩ := hany (m * 5) (by omega)
  obtain ⟨d1, hd1⟩ := hany (m * 5 + 1) (by omega)
  obtain ⟨d2, hd2⟩ := hany (m * 5 + 2) (by omega)
  obtain ⟨d3, hd3⟩ := hany (m * 5 + 3) (by omega)
  obtain ⟨d4, hd4⟩ := hany (m * 5 + 4) (by omega)
  have hfr : ∀ i, W4.frozen? ⟨p, i, none⟩ = false := fun i => by simp [World.frozen?, h4]
  have f0 := hfr (m * 5)
  have f1 := hfr (m * 5 + 1)
  have f2 := hfr (m * 5 + 2)
  have f3 := hfr (m * 5 + 3)
  have f4 := hfr (m * 5 + 4)
  have e0 : W4.drew.cell? ⟨p, m * 5, none⟩ = some d0 := hd0
  have e1 : W4.drew.cell? ⟨p, m * 5 + 1, none⟩ = some d1 := hd1
  have e2 : W4.drew.cell? ⟨p, m * 5 + 2, none⟩ = some d2 := hd2
  have e3 : W4.drew.cell? ⟨p, m * 5 + 3, none⟩ = some d3 := hd3
  have e4 : W4.drew.cell? ⟨p, m * 5 + 4, none⟩ = some d4 := hd4
  have i0 : W4.drew.frozen? ⟨p, m * 5, none⟩ = false := f0
  have i1 : W4.drew.frozen? ⟨p, m * 5 + 1, none⟩ = false := f1
  have i2 : W4.drew.frozen? ⟨p, m * 5 + 2, none⟩ = false := f2
  have i3 : W4.drew.frozen? ⟨p, m * 5 + 3, none⟩ = false := f3
  have i4 : W4.drew.frozen? ⟨p, m * 5 + 4, none⟩ = false := f4
  obtain ⟨W5, e5, k5, h5, hz5⟩ := putR (o := m * 5) h4 (Sv []) (Sv []) (Iv 0) (Iv 0) (Iv 0)
  have HE5 := Hid.mk e5
  have hII : sets ((movN Q j (j + 1)).set 320 (Iv (m : Int))) (m * 5) [Sv [], Sv [], Iv 0, Iv 0, Iv 0] = cellsN (Q.take j ++ Q.drop (j + 1)) := HI.out
  rw [hII] at h5
  have hr5 : IsQ W5.drew p (Q.take j ++ Q.drop (j + 1)) := ⟨h5, HT.out⟩
  have HQ : Hid (∀ V, V = ((((W4.setCell ⟨p, m * 5, none⟩ (Sv [])).setCell ⟨p, m * 5 + 1, none⟩ (Sv [])).setCell ⟨p, m * 5 + 2, none⟩ (Iv 0)).setCell ⟨p, m * 5 + 3, none⟩ (Iv 0)).setCell ⟨p, m * 5 + 4, none⟩ (Iv 0) → V.drew.cell? ⟨p, 320, none⟩ = some (Iv (m : Int))) := fun V hV => by
    rw [HE5.out] at hV
    subst hV
    have := hr5.count
    rw [List.length_append, List.length_take, List.length_drop] at this
    rw [this]
    congr 3
    omega
  have HR := Hid.mk (And.intro hr5 ((k4.trans k5 (by simp)).drew))
  clear hany hfr e5 h5 k5 hII hr5 h4 k4
  go_region_held3 (fun W => W.cell? ⟨p, 320, none⟩ = some (.int .i64 (m : Int))) (first | with_reducible exact S4 | exact HQ.out _ rfl) (fail)
  rw [HE5.out]
  clear e0 e1 e2 e3 e4 i0 i1 i2 i3 i4 hd0 hd1 hd2 hd3 hd4 f0 f1 f2 f3 f4 HQ HE5
  go_wp2_with fail
  go_end0
  exact ⟨rfl, HR.out⟩
end
end Go.Proofs.Ytmjbkhcfdojpeaa
