/-
  record.add.
-/
import Derived.Test.YtngjljgcldfekaaWn
namespace Go.Proofs.Ytngjljgcldfekaa
open Go.RowKit
set_option linter.unusedVariables false
/-- A serial more; the first is forgotten, if there is no room. -/
def updC (x : Cl) (s : Nat) : Cl := ⟨x.c, if x.s.length = 4 then x.s.drop 1 ++ [s] else x.s ++ [s]⟩
theorem updC_four {x : Cl} (h : x.s.length ≤ 4) (s : Nat) : (updC x s).s.length ≤ 4 := by
  unfold updC
  dsimp only
  split
  · simp; omega
  · simp; omega
theorem cellsW_add {L : List Cl} (h : Fit L) {j : Nat} {x : Cl} (hj : L[j]? = some x) (hn : x.s.length < 4) (s : Nat) : ((cellsW L).set (j * 6 + 1 + x.s.length) (Uv s)).set (j * 6 + 5) (.int .i64 ((x.s.length + 1 : Nat) : Int)) = cellsW (L.set j (updC x s)) := by
  obtain ⟨hl, hx⟩ := List.getElem?_eq_some_iff.1 hj
  obtain ⟨A, Z, hA, e1, e2⟩ := cellsW_split h hl
  rw [e1, e2, hx, ← hA, List.set_append_right _ _ (by omega), List.set_append_right _ _ (by omega), Nat.add_sub_cancel_left, show A.length + 1 + x.s.length - A.length = 1 + x.s.length by omega]
  congr 1
  obtain ⟨c, l⟩ := x
  dsimp only at hn ⊢
  match l, hn with
  | [], _ => rfl
  | [_], _ => rfl
  | [_, _], _ => rfl
  | [_, _, _], _ => rfl
  | _ :: _ :: _ :: _ :: _, h => simp at h; omega
theorem cellsW_full {L : List Cl} (h : Fit L) {j : Nat} {x : Cl} (hj : L[j]? = some x) {a b c d : Nat} (hs : x.s = [a, b, c, d]) (s : Nat) : ((((cellsW L).take (j * 6 + 1) ++ [Uv b, Uv c, Uv d] ++ (cellsW L).drop (j * 6 + 1 + 3)).set (j * 6 + 5) (.int .i64 3)).set (j * 6 + 1 + 3) (Uv s)).set (j * 6 + 5) (.int .i64 4) = cellsW (L.set j (updC x s)) := by
  obtain ⟨hl, hx⟩ := List.getElem?_eq_some_iff.1 hj
  obtain ⟨A, Z, hA, e1, e2⟩ := cellsW_split h hl
  rw [e1, e2, hx, ← hA]
  obtain ⟨cc, l⟩ := x
  dsimp only at hs
  subst hs
  have t1 : (A ++ (cellsC ⟨cc, [a, b, c, d]⟩ ++ Z)).take (A.length + 1) = A ++ [Uv cc] := by
    rw [List.take_append, List.take_of_length_le (by omega), Nat.add_sub_cancel_left]; rfl
  have t2 : (A ++ (cellsC ⟨cc, [a, b, c, d]⟩ ++ Z)).drop (A.length + 1 + 3) = Uv d :: .int .i64 4 :: Z := by
    rw [List.drop_append, List.drop_eq_nil_of_le (by omega), show A.length + 1 + 3 - A.length = 4 by omega]; rfl
  rw [t1, t2]
  simp only [List.append_assoc]
  rw [List.set_append_right _ _ (by omega), List.set_append_right _ _ (by omega), List.set_append_right _ _ (by omega), Nat.add_sub_cancel_left, show A.length + 1 + 3 - A.length = 4 by omega]
  rfl
section
variable {w : World} {p : Nat} {L : List Cl}
set_option maxRecDepth 100000 in
set_option maxHeartbeats 1000000 in
theorem add25_room (hB : IsWd w p L) {j : Nat} {x : Cl} (hj : L[j]? = some x) (hn : x.s.length < 4) (s : Nat) : Calls Try.prog 25 #[.pointer (some ⟨p, j * 6, none⟩), Uv s] w fun e w' => e = .returned (.tuple #[]) ∧ IsWd w' p (L.set j (updC x s)) ∧ Kept [p] w w' := by
  have hcA := cellsW_add hB.fit hj hn s
  have hfit : Fit (L.set j (updC x s)) := ⟨by rw [List.length_set]; exact hB.fit.len, fun y hy => by
    rcases List.mem_or_eq_of_mem_set hy with h | h
    · exact hB.fit.four y h
    · subst h; exact updC_four (by omega) s⟩
  have hl := (List.getElem?_eq_some_iff.1 hj).1
  have hl64 := hB.fit.len
  have hc := (hB.rc hj).count (by omega)
  obtain ⟨v0, hv0⟩ : ∃ v, w.cell? ⟨p, j * 6 + 1 + x.s.length, none⟩ = some v := ⟨_, hB.cell (List.getElem?_eq_getElem (by rw [cellsW_length hB.fit]; omega))⟩
  have hf0 := hB.free (j * 6 + 1 + x.s.length)
  have h1 := set_list (k := j * 6 + 1 + x.s.length) (x := Uv s) hB.box
  have h2 := set_list (k := j * 6 + 5) (x := .int .i64 ((x.s.length + 1 : Nat) : Int)) h1
  rw [hcA] at h2
  have k2 := ((Kept.refl [p] w).setCell (p := ⟨p, j * 6 + 1 + x.s.length, none⟩) (.inl (by simp)) (Uv s)).setCell (p := ⟨p, j * 6 + 5, none⟩) (.inl (by simp)) (.int .i64 ((x.s.length + 1 : Nat) : Int))
  have HR : Hid (IsWd ((w.setCell ⟨p, j * 6 + 1 + x.s.length, none⟩ (Uv s)).setCell ⟨p, j * 6 + 5, none⟩ (.int .i64 ((x.s.length + 1 : Nat) : Int))).drew p (L.set j (updC x s)) ∧ Kept [p] w ((w.setCell ⟨p, j * 6 + 1 + x.s.length, none⟩ (Uv s)).setCell ⟨p, j * 6 + 5, none⟩ (.int .i64 ((x.s.length + 1 : Nat) : Int))).drew) := ⟨⟨h2, hfit⟩, k2.drew⟩
  have hc1 : (w.setCell ⟨p, j * 6 + 1 + x.s.length, none⟩ (Uv s)).cell? ⟨p, j * 6 + 5, none⟩ = some (.int .i64 (x.s.length : Int)) := by
    rw [World.cell?_setCell_other _ _ _ _ (by intro e; injection e; omega)]; exact hc
  have hf1 : (w.setCell ⟨p, j * 6 + 1 + x.s.length, none⟩ (Uv s)).frozen? ⟨p, j * 6 + 5, none⟩ = false := by rw [World.frozen?_setCell]; exact hB.free _
  have S0 : w.drew.cell? ⟨p, j * 6 + 5, none⟩ = some (.int .i64 (x.s.length : Int)) := hc
  have S1 : (w.drew.setCell ⟨p, j * 6 + 1 + x.s.length, none⟩ (Uv s)).cell? ⟨p, j * 6 + 5, none⟩ = some (.int .i64 (x.s.length : Int)) := by
    rw [World.cell?_setCell_other _ _ _ _ (by intro e; injection e; omega)]; exact hc
  have hv1 : w.drew.cell? ⟨p, j * 6 + 1 + x.s.length, none⟩ = some v0 := hv0
  have hfd : w.drew.frozen? ⟨p, j * 6 + 1 + x.s.length, none⟩ = false := hf0
  have g0 : (0 : Int) ≤ (x.s.length : Int) := by omega
  have g4 : (x.s.length : Int) < 4 := by omega
  have g4' : ((x.s.length : Int) == 4) = false := by simp; omega
  clear hB hj hcA hfit h1 h2 k2
  generalize x.s.length = n at *
  go_enter Try.func25, Try.ntmps25
  go_wp2_with fail
  go_region_held3 (fun W => W.cell? ⟨p, j * 6 + 5, none⟩ = some (.int .i64 (n : Int))) (first | exact S0 | exact S1) (fail)
  clear S0 S1
  go_wp2_with fail
  go_end0
  exact ⟨rfl, HR.out⟩
set_option maxRecDepth 100000 in
set_option maxHeartbeats 1000000 in
theorem add25_full (hB : IsWd w p L) {j : Nat} {x : Cl} (hj : L[j]? = some x) {a b c d : Nat} (hs : x.s = [a, b, c, d]) (s : Nat) : Calls Try.prog 25 #[.pointer (some ⟨p, j * 6, none⟩), Uv s] w fun e w' => e = .returned (.tuple #[]) ∧ IsWd w' p (L.set j (updC x s)) ∧ Kept [p] w w' := by
  have hcA := cellsW_full hB.fit hj hs s
  have hfit : Fit (L.set j (updC x s)) := ⟨by rw [List.length_set]; exact hB.fit.len, fun y hy => by
    rcases List.mem_or_eq_of_mem_set hy with h | h
    · exact hB.fit.four y h
    · subst h; exact updC_four (by rw [hs]; simp) s⟩
  have hl := (List.getElem?_eq_some_iff.1 hj).1
  have hl64 := hB.fit.len
  have hlen := cellsW_length hB.fit
  have hrc := hB.rc hj
  have hc := hrc.count (by rw [hs]; simp)
  rw [hs] at hc
  have hc : w.cell? ⟨p, j * 6 + 5, none⟩ = some (.int .i64 4) := hc
  have hcc : cellsC x = [Uv x.c, Uv a, Uv b, Uv c, Uv d, .int .i64 4] := by obtain ⟨cc, l⟩ := x; dsimp only at hs; subst hs; rfl
  have hsrc : ∀ i v, ([Uv b, Uv c, Uv d] : List Value)[i]? = some v → w.drew.cell? ((⟨p, j * 6 + 1 + 1, none⟩ : Addr).add i) = some v := fun i v hv => by
    rw [add_at]
    show w.cell? _ = _
    rw [show j * 6 + 1 + 1 + i = j * 6 + (i + 2) by omega]
    refine hrc (i + 2) v ?_
    rw [hcc]
    match i, hv with
    | 0, hv => exact hv
    | 1, hv => exact hv
    | 2, hv => exact hv
  have hrun := run_copy_rowK (P := Try.prog) w.drew 42 42 3 30 1 p (j * 6 + 1) 4 4 ⟨p, j * 6 + 1 + 1, none⟩ 3 3 _ 36 [Uv b, Uv c, Uv d] Try.underlying42 (by kernel_rfl) hB.box (by rfl) hsrc (by simp only [List.size_toArray]; rw [hlen]; simp; omega) (by intro v hv; simp at hv; rcases hv with rfl | rfl | rfl <;> rfl)
  obtain ⟨W3, e3, k3, h3⟩ : ∃ W, w.drew.setRow p ((cellsW L).toArray.toList.take (j * 6 + 1) ++ [Uv b, Uv c, Uv d] ++ (cellsW L).toArray.toList.drop (j * 6 + 1 + ([Uv b, Uv c, Uv d] : List Value).length)).toArray = W ∧ Kept [p] w W ∧ W.heap[p]? = some (.cells ((cellsW L).take (j * 6 + 1) ++ [Uv b, Uv c, Uv d] ++ (cellsW L).drop (j * 6 + 1 + 3)).toArray 36 (0, 0)) := by
    refine ⟨_, rfl, ((Kept.refl [p] w).drew).setRow (.inl (by simp)) _, ?_⟩
    exact setRow_heap w.drew p (cellsW L).toArray ((cellsW L).toArray.toList.take (j * 6 + 1) ++ [Uv b, Uv c, Uv d] ++ (cellsW L).toArray.toList.drop (j * 6 + 1 + ([Uv b, Uv c, Uv d] : List Value).length)).toArray 36 (0, 0) hB.box
  rw [e3] at hrun
  have hlen3 : ((cellsW L).take (j * 6 + 1) ++ [Uv b, Uv c, Uv d] ++ (cellsW L).drop (j * 6 + 1 + 3)).length = 385 := by simp [hlen]; omega
  have hR5 : ((cellsW L).take (j * 6 + 1) ++ [Uv b, Uv c, Uv d] ++ (cellsW L).drop (j * 6 + 1 + 3))[j * 6 + 5]? = some (.int .i64 4) := by
    have ht : ((cellsW L).take (j * 6 + 1) ++ [Uv b, Uv c, Uv d]).length = j * 6 + 4 := by simp [hlen]; omega
    rw [List.getElem?_append_right (by omega), ht, List.getElem?_drop, show j * 6 + 1 + 3 + (j * 6 + 5 - (j * 6 + 4)) = j * 6 + 5 by omega]
    exact cellsW_at hB.fit (padC_get hj) (i := 5) (by rw [hcc]; rfl)
  generalize (cellsW L).take (j * 6 + 1) ++ [Uv b, Uv c, Uv d] ++ (cellsW L).drop (j * 6 + 1 + 3) = R at h3 hcA hlen3 hR5
  have hany : ∀ (W : World) (Q : List Value), W.heap[p]? = some (.cells Q.toArray 36 (0, 0)) → Q.length = 385 → ∀ i, i < 385 → (∃ v, W.cell? ⟨p, i, none⟩ = some v) ∧ W.frozen? ⟨p, i, none⟩ = false := fun W Q h hq i hi =>
    ⟨⟨Q[i]'(by omega), by simp [World.cell?, h, hq, hi]⟩, by simp [World.frozen?, h]⟩
  have c3 : W3.cell? ⟨p, j * 6 + 5, none⟩ = some (.int .i64 4) := by unfold World.cell?; rw [h3]; simpa using hR5
  have f3 := (hany W3 R h3 hlen3 (j * 6 + 5) (by omega)).2
  have h4 := set_list (k := j * 6 + 5) (x := .int .i64 3) h3
  have k4 := k3.setCell (p := ⟨p, j * 6 + 5, none⟩) (.inl (by simp)) (.int .i64 3)
  have c4 : (W3.setCell ⟨p, j * 6 + 5, none⟩ (.int .i64 3)).cell? ⟨p, j * 6 + 5, none⟩ = some (.int .i64 3) := World.cell?_setCell_same _ _ _ c3
  have HE4 : ∃ W, W3.setCell ⟨p, j * 6 + 5, none⟩ (.int .i64 3) = W := ⟨_, rfl⟩
  obtain ⟨W4, e4⟩ := HE4
  rw [e4] at h4 k4 c4
  obtain ⟨⟨v4, hv4⟩, f4⟩ := hany W4 _ h4 (by rw [List.length_set]; exact hlen3) (j * 6 + 1 + 3) (by omega)
  have h5 := set_list (k := j * 6 + 1 + 3) (x := Uv s) h4
  have k5 := k4.setCell (p := ⟨p, j * 6 + 1 + 3, none⟩) (.inl (by simp)) (Uv s)
  have c5 : (W4.setCell ⟨p, j * 6 + 1 + 3, none⟩ (Uv s)).cell? ⟨p, j * 6 + 5, none⟩ = some (.int .i64 3) := by
    rw [World.cell?_setCell_other _ _ _ _ (by intro e; injection e; omega)]; exact c4
  have f5 := (hany _ _ h5 (by rw [List.length_set, List.length_set]; exact hlen3) (j * 6 + 5) (by omega)).2
  have h6 := set_list (k := j * 6 + 5) (x := .int .i64 4) h5
  rw [hcA] at h6
  have k6 := k5.setCell (p := ⟨p, j * 6 + 5, none⟩) (.inl (by simp)) (.int .i64 4)
  have HR : Hid (IsWd ((W4.setCell ⟨p, j * 6 + 1 + 3, none⟩ (Uv s)).setCell ⟨p, j * 6 + 5, none⟩ (.int .i64 4)).drew p (L.set j (updC x s)) ∧ Kept [p] w ((W4.setCell ⟨p, j * 6 + 1 + 3, none⟩ (Uv s)).setCell ⟨p, j * 6 + 5, none⟩ (.int .i64 4)).drew) := ⟨⟨h6, hfit⟩, k6.drew⟩
  have S0 : w.drew.cell? ⟨p, j * 6 + 5, none⟩ = some (.int .i64 4) := hc
  clear hB hj hcA hfit h3 h4 h5 h6 k3 k4 k5 k6 hany hrc hcc hsrc hs hlen3 hlen e3 hR5
  go_enter Try.func25, Try.ntmps25
  go_wp2_with fail
  go_region_held3 (fun W => W.cell? ⟨p, j * 6 + 5, none⟩ = some (.int .i64 4)) (first | exact S0 | exact c3) (first | (refine step_copy_run 42 42 (.tmp 12) (.tmp 16) (by rfl) (by rfl) _ _ (by rfl) (by rfl) hrun ?_))
  clear S0 hrun
  go_wp2_with fail
  have S4 : W4.drew.cell? ⟨p, j * 6 + 5, none⟩ = some (.int .i64 3) := c4
  have S5 : (W4.drew.setCell ⟨p, j * 6 + 1 + 3, none⟩ (Uv s)).cell? ⟨p, j * 6 + 5, none⟩ = some (.int .i64 3) := c5
  have hv4' : W4.drew.cell? ⟨p, j * 6 + 1 + 3, none⟩ = some v4 := hv4
  have f4' : W4.drew.frozen? ⟨p, j * 6 + 1 + 3, none⟩ = false := f4
  clear e4 c3 f3
  go_region_held3 (fun W => W.cell? ⟨p, j * 6 + 5, none⟩ = some (.int .i64 3)) (first | exact S4 | exact S5) (fail)
  clear S4 S5
  go_wp2_with fail
  go_end0
  exact ⟨rfl, HR.out⟩
end
end Go.Proofs.Ytngjljgcldfekaa
