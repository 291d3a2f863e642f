/-
  insert and remove of a queue.
-/
import Derived.Test.YtmjbkhcfdojpeaaQd
namespace Go.Proofs.Ytmjbkhcfdojpeaa
set_option maxRecDepth 100000
open Go.RowKit Go.Shelf
set_option linter.unusedVariables false
theorem slice28l (p j : Nat) (h1 : j ≤ 64) (W : World) : (Instr.sliceAt 28 (.pointer (some ⟨p, 0, none⟩)) (some (.int .i64 (j : Int))) none none).run Try.prog W = .ok (.slice (some (if 64 = j then ⟨p, 0, none⟩ else ⟨p, j * 5, none⟩)) (64 - j) (64 - j)) W := by
  have ht : Try.prog.underlying 28 = some (.array (Try.prog.arrayLen 28) (Try.prog.elem 28)) := by kernel_rfl
  have h64 : Try.prog.arrayLen 28 = 64 := by kernel_rfl
  have he : Try.prog.elem 28 = 27 := by kernel_rfl
  have hs : (sizeOf 27).run Try.prog W = .ok 5 W := by kernel_rfl
  rw [run_sliceAt_array_l W 28 ⟨p, 0, none⟩ ht .i64 (j : Int) (by omega) (by rw [h64]; omega), he, hs, Result.andThen_ok, slicedAt, h64, add_at, Nat.zero_add]
  rfl
theorem slice28lh (p j n : Nat) (h1 : j ≤ n) (h2 : n ≤ 64) (W : World) : (Instr.sliceAt 28 (.pointer (some ⟨p, 0, none⟩)) (some (.int .i64 (j : Int))) (some (.int .i64 (n : Int))) none).run Try.prog W = .ok (.slice (some (if 64 = j then ⟨p, 0, none⟩ else ⟨p, j * 5, none⟩)) (n - j) (64 - j)) W := by
  have ht : Try.prog.underlying 28 = some (.array (Try.prog.arrayLen 28) (Try.prog.elem 28)) := by kernel_rfl
  have h64 : Try.prog.arrayLen 28 = 64 := by kernel_rfl
  have he : Try.prog.elem 28 = 27 := by kernel_rfl
  have hs : (sizeOf 27).run Try.prog W = .ok 5 W := by kernel_rfl
  rw [run_sliceAt_array_lh W 28 ⟨p, 0, none⟩ ht .i64 .i64 (j : Int) (n : Int) (by omega) (by omega) (by rw [h64]; omega), he, hs, Result.andThen_ok, slicedAt, h64, add_at, Nat.zero_add]
  rfl
section
variable {w : World} {p : Nat} {Q : List Rm}
theorem IsQ.src (hB : IsQ w p Q) (P : Nat) : ∀ i v, (CR (Q.drop P)).flatten[i]? = some v → w.cell? ((⟨p, P * 5, none⟩ : Addr).add i) = some v := fun i v hv => by
  obtain ⟨m, r, k, hm, hk, rfl⟩ := (CR_wide _).inv i v hv
  rw [CR, List.getElem?_map, Option.map_eq_some_iff] at hm
  obtain ⟨y, hy, rfl⟩ := hm
  rw [List.getElem?_drop] at hy
  rw [add_at, show P * 5 + (m * 5 + k) = (P + m) * 5 + k by omega]
  exact hB.cell (cellsN_at hB.len (padR_get hy) hk)
/-- The cells behind a place, moved to another. -/
abbrev movN (Q : List Rm) (t P : Nat) : List Value := (cellsN Q).take (t * 5) ++ (CR (Q.drop P)).flatten ++ (cellsN Q).drop (t * 5 + (CR (Q.drop P)).flatten.length)
/-- What copy leaves. -/
theorem copyQ (hB : IsQ w p Q) {t P : Nat} (hP : P ≤ Q.length) (ht : t + (Q.length - P) ≤ 64) (a a' : Addr) (ha : t < 64 → a = ⟨p, t * 5, none⟩) (ha' : P < 64 → a' = ⟨p, P * 5, none⟩) : ∃ r W', (Builtin.copy_ #[47, 47] 3 #[.slice (some a) (64 - t) (64 - t), .slice (some a') (Q.length - P) (64 - P)]).run Try.prog w = .ok r W' ∧ Kept [p] w W' ∧
    W'.heap[p]? = some (.cells (movN Q t P).toArray 30 (0, 0)) := by
  have hl := cellsN_length hB.len
  have hf : (CR (Q.drop P)).flatten.length = (Q.length - P) * 5 := by rw [CR_flat, List.length_drop]
  have hlen := hB.len
  by_cases h0 : Q.length = P
  · have hn : Nat.min (Q.length - P) (64 - t) = 0 := by rw [h0, Nat.sub_self]; exact Nat.zero_min _
    have hrun := run_copy_noneK (P := Try.prog) w 47 47 3 27 5 (some a) (some a') (64 - t) (64 - t) (Q.length - P) (64 - P) Try.underlying47 (by kernel_rfl) hn
    refine ⟨_, _, hrun, Kept.refl [p] w, ?_⟩
    have e : movN Q t P = cellsN Q := by
      unfold movN
      rw [show Q.drop P = [] from List.drop_eq_nil_of_le (by omega)]
      simp [CR]
    rw [e]
    exact hB.box
  · have e1 := ha (by omega)
    have e2 := ha' (by omega)
    subst e1 e2
    have hrun := run_copy_rowK (P := Try.prog) w 47 47 3 27 5 p (t * 5) (64 - t) (64 - t) ⟨p, P * 5, none⟩ (Q.length - P) (64 - P) _ 30 (CR (Q.drop P)).flatten Try.underlying47 (by kernel_rfl) hB.box (by rw [hf]; congr 1; exact (Nat.min_eq_left (by omega)).symm) (hB.src P) (by rw [hf, List.size_toArray, hl]; omega) (CR_wide _).one
    refine ⟨_, _, hrun, (Kept.refl [p] w).setRow (.inl (by simp)) _, ?_⟩
    exact setRow_heap w p (cellsN Q).toArray ((cellsN Q).toArray.toList.take (t * 5) ++ (CR (Q.drop P)).flatten ++ (cellsN Q).toArray.toList.drop (t * 5 + (CR (Q.drop P)).flatten.length)).toArray 30 (0, 0) hB.box
theorem movN_length (hlen : Q.length ≤ 64) {t P : Nat} (hP : P ≤ Q.length) (ht : t + (Q.length - P) ≤ 64) : (movN Q t P).length = 321 := by
  have hl := cellsN_length hlen
  have hf : (CR (Q.drop P)).flatten.length = (Q.length - P) * 5 := by rw [CR_flat, List.length_drop]
  rw [movN, List.length_append, List.length_append, List.length_take, List.length_drop, hl, hf]
  omega
theorem movN_count (hlen : Q.length ≤ 64) {t P : Nat} (hP : P ≤ Q.length) (ht : t + (Q.length - P) ≤ 64) : (movN Q t P)[320]? = some (Iv (Q.length : Int)) := by
  have hl := cellsN_length hlen
  have hf : (CR (Q.drop P)).flatten.length = (Q.length - P) * 5 := by rw [CR_flat, List.length_drop]
  have ht' : ((cellsN Q).take (t * 5)).length = t * 5 := by rw [List.length_take, hl]; omega
  rw [movN, List.getElem?_append_right (by rw [List.length_append, ht', hf]; omega), List.length_append, ht', hf, List.getElem?_drop]
  rw [show t * 5 + (Q.length - P) * 5 + (320 - (t * 5 + (Q.length - P) * 5)) = 320 by omega]
  exact cellsN_count hlen
set_option maxHeartbeats 1000000 in
theorem insert51 (hB : IsQ w p Q) (hup : Ris Q) (r : Rm) (hK : Q.length < 64) : Calls Try.prog 51 #[.pointer (some ⟨p, 0, none⟩), Rv r] w fun e w' => e = .returned (.tuple #[]) ∧ IsQ w' p (layR Q r) ∧ Kept [p] w w' := by
  have hpl := plR_le Q r
  rw [layR_eq]
  have HS : Hid (∀ W, IsQ W p Q → Calls Try.prog 66 #[.slice (some ⟨p, 0, none⟩) Q.length 64, Rv r, .func (.func 61) #[] #[]] W fun e w' => ∃ f, e = .returned (.tuple #[Iv (plR Q r : Int), .bool f]) ∧ Kept [] W w') := fun W h => search66 h hup r
  generalize plR Q r = P at *
  have HB := Hid.mk hB
  have hlt := hB.lt
  clear hB hup
  have hr : r = ⟨r.ac, r.nm, r.due, r.per, r.kind⟩ := rfl
  generalize r.ac = ac, r.nm = nm, r.due = due, r.per = per, r.kind = kind at hr
  subst hr
  have g0 : (0 : Int) ≤ (P : Int) := by omega
  have g1 : (P : Int) < 64 := by omega
  have q1 : (P : Int) ≤ (Q.length : Int) := by omega
  have q2 : (Q.length : Int) ≤ 64 := by omega
  have q3 : (0 : Int) ≤ (Q.length : Int) := by omega
  have q4 : (Q.length : Int) < 64 := by omega
  go_enter Try.func51, Try.ntmps51
  go_wp2_with fail
  obtain ⟨W0, e0, k0, hz0, hb0⟩ := box1 w (.cells #[Sv ac, Sv nm, Iv due, Iv per, Iv kind] 27)
  rw [e0]
  clear e0
  have HBX : Hid (∀ W, Kept [] W0 W → W.cell? ⟨p, 320, none⟩ = some (Iv (Q.length : Int)) ∧ W.cell? ⟨w.heap.size, 0, none⟩ = some (Sv ac) ∧ W.cell? ⟨w.heap.size, 1, none⟩ = some (Sv nm) ∧ W.cell? ⟨w.heap.size, 2, none⟩ = some (Iv due) ∧ W.cell? ⟨w.heap.size, 3, none⟩ = some (Iv per) ∧ W.cell? ⟨w.heap.size, 4, none⟩ = some (Iv kind)) := fun W k => ⟨(HB.out.kept0 (k0.trans k (by simp))).count, cells5 (k.keeps hb0 (by simp))⟩
  have HBQ : Hid (∀ W, Kept [] W0 W → IsQ W p Q) := fun W k => HB.out.kept0 (k0.trans k (by simp))
  have HK0 := Hid.mk k0
  have HX0 := Hid.mk hb0
  clear hb0 k0 hz0
  have S0 := HBX.out _ (Kept.refl [] W0).drew
  have HC := Hid.mk (HS.out _ (HBQ.out _ (Kept.refl [] W0).drew))
  go_region_held3 (fun W => W.cell? ⟨p, 320, none⟩ = some (Iv (Q.length : Int)) ∧ W.cell? ⟨w.heap.size, 0, none⟩ = some (Sv ac) ∧ W.cell? ⟨w.heap.size, 1, none⟩ = some (Sv nm) ∧ W.cell? ⟨w.heap.size, 2, none⟩ = some (Iv due) ∧ W.cell? ⟨w.heap.size, 3, none⟩ = some (Iv per) ∧ W.cell? ⟨w.heap.size, 4, none⟩ = some (Iv kind)) (first | with_reducible exact S0 | with_reducible exact S1) (first | (go_at_call 66; refine HC.out.mono ?_; rintro e w1 ⟨f, rfl, k1⟩; have HK1 := Hid.mk ((Kept.refl [] W0).drew.trans k1 (by simp)); clear k1; have S1 := HBX.out _ HK1.out))
  have hB1 := HBQ.out _ HK1.out
  have hBd := hB1.kept0 (Kept.refl [] w1).drew
  have hsl1 : ∀ W : World, (Instr.sliceAt 28 (.pointer (some ⟨p, 0, none⟩)) (some (.int .i64 ((P : Int) + 1))) none none).run Try.prog W = _ := slice28l p (P + 1) (by omega)
  have hsl2 : ∀ W : World, (Instr.sliceAt 28 (.pointer (some ⟨p, 0, none⟩)) (some (.int .i64 (P : Int))) (some (.int .i64 (Q.length : Int))) none).run Try.prog W = _ := slice28lh p P Q.length hpl (by omega)
  rw [if_neg (by omega)] at hsl2
  obtain ⟨r3, W3, hrun, k3, h3⟩ := copyQ hBd (t := P + 1) hpl (by omega) (if 64 = P + 1 then ⟨p, 0, none⟩ else ⟨p, (P + 1) * 5, none⟩) ⟨p, P * 5, none⟩ (fun h => if_neg (by omega)) (fun _ => rfl)
  generalize (if 64 = P + 1 then (⟨p, 0, none⟩ : Addr) else ⟨p, (P + 1) * 5, none⟩) = a2 at hrun hsl1
  generalize 64 - (P + 1) = c2 at hrun hsl1
  have S2 := hBd.count
  have S3 : W3.cell? ⟨p, 320, none⟩ = some (Iv (Q.length : Int)) := cell_list h3 (movN_count (by omega) hpl (by omega))
  have hw1 : IntKind.i64.wrap ((P : Int) + 1) = (P : Int) + 1 := by rw [IntKind.wrap_i64]; omega
  have HI := Hid.mk (cellsN_ins hK hpl ⟨ac, nm, due, per, kind⟩)
  have HL := Hid.mk (movN_length (Q := Q) (t := P + 1) (P := P) (by omega) hpl (by omega))
  have HK3 : Hid (Kept [p] w W3) := (HK0.out.trans ((HK1.out.drew)) (by simp)).mono (by simp) |>.trans k3 (by simp)
  have HX3 : Hid (∀ W, Kept [p] W3 W → W.heap[w.heap.size]? = some (.cells #[Sv ac, Sv nm, Iv due, Iv per, Iv kind] 27 (0, 0))) := fun W k => k.keeps (k3.keeps (w := w1.drew) (HK1.out.keeps HX0.out (by simp)) (by simp; omega)) (by simp; omega)
  have HB3 := Hid.mk h3
  clear hBd hB1 k3 h3 S0 S1
  go_wp2_with fail
  go_region_held3 (fun W => W.cell? ⟨p, 320, none⟩ = some (.int .i64 (Q.length : Int))) (first | with_reducible exact S2 | with_reducible exact S3) (first | (refine step_copy_run 47 47 (.tmp 24) (.tmp 33) (by rfl) (by rfl) _ _ (by rfl) (by rfl) hrun ?_))
  have hx := HX3.out _ (Kept.refl [p] W3)
  obtain ⟨b0, b1, b2, b3, b4⟩ := cells5 (w := W3.drew) hx
  have hany : ∀ i, i < 321 → ∃ v, W3.cell? ⟨p, i, none⟩ = some v := fun i hi => ⟨_, cell_list HB3.out (List.getElem?_eq_getElem (by rw [HL.out]; exact hi))⟩
  obtain ⟨d0, hd0⟩ := hany (P * 5) (by omega)
  obtain ⟨d1, hd1⟩ := hany (P * 5 + 1) (by omega)
  obtain ⟨d2, hd2⟩ := hany (P * 5 + 2) (by omega)
  obtain ⟨d3, hd3⟩ := hany (P * 5 + 3) (by omega)
  obtain ⟨d4, hd4⟩ := hany (P * 5 + 4) (by omega)
  have hfr : ∀ i, W3.frozen? ⟨p, i, none⟩ = false := fun i => by simp [World.frozen?, HB3.out]
  have f0 := hfr (P * 5)
  have f1 := hfr (P * 5 + 1)
  have f2 := hfr (P * 5 + 2)
  have f3 := hfr (P * 5 + 3)
  have f4 := hfr (P * 5 + 4)
  have e0 : W3.drew.cell? ⟨p, P * 5, none⟩ = some d0 := hd0
  have e1 : W3.drew.cell? ⟨p, P * 5 + 1, none⟩ = some d1 := hd1
  have e2 : W3.drew.cell? ⟨p, P * 5 + 2, none⟩ = some d2 := hd2
  have e3 : W3.drew.cell? ⟨p, P * 5 + 3, none⟩ = some d3 := hd3
  have e4 : W3.drew.cell? ⟨p, P * 5 + 4, none⟩ = some d4 := hd4
  have i0 : W3.drew.frozen? ⟨p, P * 5, none⟩ = false := f0
  have i1 : W3.drew.frozen? ⟨p, P * 5 + 1, none⟩ = false := f1
  have i2 : W3.drew.frozen? ⟨p, P * 5 + 2, none⟩ = false := f2
  have i3 : W3.drew.frozen? ⟨p, P * 5 + 3, none⟩ = false := f3
  have i4 : W3.drew.frozen? ⟨p, P * 5 + 4, none⟩ = false := f4
  obtain ⟨W5, e5, k5, h5, hz5⟩ := putR (o := P * 5) HB3.out (Sv ac) (Sv nm) (Iv due) (Iv per) (Iv kind)
  have HE5 := Hid.mk e5
  have hsl := sets_eq [Sv ac, Sv nm, Iv due, Iv per, Iv kind] (movN Q (P + 1) P) (P * 5) (by rw [HL.out]; simp; omega)
  have q5 : W5.cell? ⟨p, 320, none⟩ = some (Iv (Q.length : Int)) := by
    refine cell_list h5 ?_
    have ht : ((movN Q (P + 1) P).take (P * 5)).length = P * 5 := by rw [List.length_take, HL.out]; omega
    rw [hsl, List.getElem?_append_right (by rw [List.length_append, ht]; simp; omega), List.length_append, ht, List.getElem?_drop]
    simp only [List.length_cons, List.length_nil]
    rw [show P * 5 + (0 + 1 + 1 + 1 + 1 + 1) + (320 - (P * 5 + (0 + 1 + 1 + 1 + 1 + 1))) = 320 by omega]
    exact movN_count (by omega) hpl (by omega)
  have u5 : W5.frozen? ⟨p, 320, none⟩ = false := by simp [World.frozen?, h5]
  have h6 := set_list (k := 320) (x := Iv ((Q.length + 1 : Nat) : Int)) h5
  have hII : (sets (movN Q (P + 1) P) (P * 5) [Sv ac, Sv nm, Iv due, Iv per, Iv kind]).set 320 (Iv ((Q.length + 1 : Nat) : Int)) = cellsN (Q.take P ++ ⟨ac, nm, due, per, kind⟩ :: Q.drop P) := HI.out
  rw [hII] at h6
  have k6 := k5.setCell (p := ⟨p, 320, none⟩) (.inl (by simp)) (Iv ((Q.length + 1 : Nat) : Int))
  have HR : Hid (IsQ (W5.setCell ⟨p, 320, none⟩ (Iv ((Q.length + 1 : Nat) : Int))).drew p (Q.take P ++ ⟨ac, nm, due, per, kind⟩ :: Q.drop P) ∧ Kept [p] w (W5.setCell ⟨p, 320, none⟩ (Iv ((Q.length + 1 : Nat) : Int))).drew) := ⟨⟨h6, by simp; omega⟩, (HK3.out.trans k6 (by simp)).drew⟩
  have HQ : Hid (∀ V, V = ((((W3.setCell ⟨p, P * 5, none⟩ (Sv ac)).setCell ⟨p, P * 5 + 1, none⟩ (Sv nm)).setCell ⟨p, P * 5 + 2, none⟩ (Iv due)).setCell ⟨p, P * 5 + 3, none⟩ (Iv per)).setCell ⟨p, P * 5 + 4, none⟩ (Iv kind) → V.drew.cell? ⟨w.heap.size, 0, none⟩ = some (Sv ac) ∧ V.drew.cell? ⟨w.heap.size, 1, none⟩ = some (Sv nm) ∧ V.drew.cell? ⟨w.heap.size, 2, none⟩ = some (Iv due) ∧ V.drew.cell? ⟨w.heap.size, 3, none⟩ = some (Iv per) ∧ V.drew.cell? ⟨w.heap.size, 4, none⟩ = some (Iv kind)) := fun V hV => by
    rw [HE5.out] at hV
    subst hV
    exact cells5 (HX3.out _ k5.drew)
  clear hany hfr hx S2 S3 hrun hsl1 hsl2 e5 h5 h6 k6 k5 hII hsl
  go_wp2_with fail
  go_region_held3 (fun W => W.cell? ⟨w.heap.size, 0, none⟩ = some (Sv ac) ∧ W.cell? ⟨w.heap.size, 1, none⟩ = some (Sv nm) ∧ W.cell? ⟨w.heap.size, 2, none⟩ = some (Iv due) ∧ W.cell? ⟨w.heap.size, 3, none⟩ = some (Iv per) ∧ W.cell? ⟨w.heap.size, 4, none⟩ = some (Iv kind)) (first | with_reducible exact ⟨b0, b1, b2, b3, b4⟩ | exact HQ.out _ rfl) (fail)
  rw [HE5.out]
  clear e0 e1 e2 e3 e4 i0 i1 i2 i3 i4 hd0 hd1 hd2 hd3 hd4 f0 f1 f2 f3 f4 b0 b1 b2 b3 b4 HQ HE5
  go_wp2_with fail
  go_end0
  exact ⟨rfl, HR.out⟩
end
end Go.Proofs.Ytmjbkhcfdojpeaa
