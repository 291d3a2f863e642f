/-
  The document's queue: Cancel.
-/
import Derived.Test.YtelmppfacgdfbaaRq
namespace Go.Proofs.Ytelmppfacgdfbaa
set_option maxRecDepth 100000
open Go.RowKit Go.Shelf
set_option linter.unusedVariables false
theorem Kept.two {S T : List Nat} {a b c : World} (h : Kept [] a b) (k : Kept T b c) (hT : ∀ x ∈ T, a.heap.size ≤ x) : Kept S a c := (h.trans k (fun x hx => .inr (hT x hx))).mono (by simp)
theorem can_take_yes {Q : List Rm} {ac nm : List UInt8} {j : Nat} {y : Rm} (hy : Q[j]? = some y) (h : sameR y ac nm = false) : canR (Q.take (j + 1)) ac nm = canR (Q.take j) ac nm ++ [y] := by
  rw [List.take_add_one, hy, canR, List.filter_append]
  simp [canR, h]
theorem can_take_no {Q : List Rm} {ac nm : List UInt8} {j : Nat} {y : Rm} (hy : Q[j]? = some y) (h : sameR y ac nm = true) : canR (Q.take (j + 1)) ac nm = canR (Q.take j) ac nm := by
  rw [List.take_add_one, hy, canR, List.filter_append]
  simp [canR, h]
section
variable {w : World} {f : Nat} {v : Value} {Q : List Rm}
/-- What is laid out so far. -/
def OutC (w wr : World) (u : Value) (L : List Rm) : Prop := OwnsR 52 5 wr u (CR L) ∧ Fresh w u ∧ Kept [] w wr
theorem OutC.more {w wr : World} {u : Value} {L : List Rm} (h : OutC w wr u L) (hl : L.length ≤ 900000) (y : Rm) : ∃ ad c w2, (Builtin.append_ #[33, 33] 33 #[u, .slice (some ⟨wr.heap.size, 0, none⟩) 1 1]).run Try.prog (wr.alloc (.cells #[Sv y.ac, Sv y.nm, Iv y.due, Iv y.per, Iv y.kind] 52)) = .ok (.slice ad (L.length + 1) c) w2 ∧ OutC w w2 (.slice ad (L.length + 1) c) (L ++ [y]) := by
  obtain ⟨h1, h2, h3⟩ := h
  obtain ⟨ad, c, w2, hrun, hO, k2, hN⟩ := append_rowR rt33 h1 (cellsR y) rfl (fun x hx => by simp [cellsR] at hx; rcases hx with rfl | rfl | rfl | rfl | rfl <;> rfl) (by rw [CR_length]; exact hl) 52 (0, 0) 33
  rw [CR_length] at *
  refine ⟨ad, c, w2, hrun, ?_, fun g hg => ?_, h3.two k2 (fun x hx => by rw [Option.mem_toList] at hx; exact h2 x hx)⟩
  · rw [CR_append]; exact hO
  · rcases hN g hg with h | h
    · exact h2 g h
    · exact Nat.le_trans h3.size h
theorem OutC.form {w wr : World} {u : Value} {L : List Rm} (h : OutC w wr u L) : ∃ a c, u = .slice a L.length c := by
  obtain ⟨a, c, e, -⟩ := h.1.form
  rw [CR_length] at e
  exact ⟨a, c, e⟩
set_option maxHeartbeats 1000000 in
theorem cancel23 (hF : IsF w f v Q) (hl : Q.length ≤ 1000) (ac nm : List UInt8) : Calls Try.prog 23 #[.pointer (some ⟨f, 0, none⟩), Sv ac, Sv nm] w fun e w' => e = .returned (.bool (hasR Q ac nm)) ∧ (∃ u, IsF w' f u (canR Q ac nm) ∧ Fresh w u) ∧ Kept [f] w w' := by
  have HH := Hid.mk (has43 hF (by omega) ac nm)
  obtain ⟨a, c, rfl, hc1, hc2⟩ := rowR_form hF.row
  have x0 := hF.cell
  have hfl := hF.lt
  have HFF := Hid.mk hF
  generalize hasR Q ac nm = R at HH ⊢
  clear hF
  generalize hn : Q.length = n at *
  have HN := Hid.mk hn
  clear hn
  go_enter Try.func23, Try.ntmps23
  go_wp2_with fail
  refine HH.out.mono ?_
  rintro e w1 ⟨rfl, rfl⟩
  go_wp2_with fail
  go_loopw [19, 8] (fun i u wr => ∃ j : Nat, i = .int .i64 (j : Int) ∧ j ≤ n ∧ Hid (OutC w wr u (canR (Q.take j) ac nm))) (fun i _ _ => n - (intOf i).toNat)
  case atStart => exact ⟨0, rfl, by omega, Hid.mk ⟨by simp [canR]; exact OwnsR.nil _ _ _, fresh_nil _ _, Kept.refl [] w⟩⟩
  case round =>
    obtain ⟨j, rfl, hj, H⟩ := hrel
    obtain ⟨a', c', rfl⟩ := H.out.form
    have y0 := H.out.2.2.cell_eq x0
    by_cases hlt : j < n
    · obtain ⟨y, hy⟩ : ∃ y, Q[j]? = some y := ⟨_, List.getElem?_eq_getElem (by have := HN.out; omega)⟩
      obtain ⟨b, o, rfl, d0, d1, d2, d3, d4⟩ := rowR_at (HFF.out.kept0 H.out.2.2).row hy
      have hjI : (j : Int) < (n : Int) := by omega
      cases hs : sameR y ac nm with
      | true =>
        obtain ⟨h1, h2⟩ := sameR_iff.1 hs
        have g1 : (y.ac == ac) = true := by simpa using h1
        have g2 : (y.nm == nm) = true := by simpa using h2
        have HR : Hid (OutC w wr (.slice a' (canR (Q.take j) ac nm).length c') (canR (Q.take (j + 1)) ac nm)) := by rw [can_take_no hy hs]; exact H.out
        generalize (canR (Q.take j) ac nm).length = m at *
        clear hy hs h1 h2 H
        go_wp2_with fail
        go_roundw
        case rel => exact ⟨j + 1, by go_num, by omega, HR⟩
        case measure => simp [intOf]; omega
      | false =>
        have hcl : (canR (Q.take j) ac nm).length ≤ 900000 := by
          have h1 := List.length_filter_le (fun x => !sameR x ac nm) (Q.take j)
          have h2 : (Q.take j).length ≤ j := by rw [List.length_take]; omega
          unfold canR
          omega
        obtain ⟨ad2, c2, w2, hrun, hO2⟩ := H.out.more hcl y
        have HR : Hid (OutC w w2 (.slice ad2 ((canR (Q.take j) ac nm).length + 1) c2) (canR (Q.take (j + 1)) ac nm)) := by rw [can_take_yes hy hs]; exact hO2
        generalize (canR (Q.take j) ac nm).length = m at *
        by_cases h1 : y.ac = ac
        · have h2 : ¬ y.nm = nm := fun e => by rw [sameR_iff.2 ⟨h1, e⟩] at hs; cases hs
          have g1 : (y.ac == ac) = true := by simpa using h1
          have g2 : (y.nm == nm) = false := by simpa using h2
          clear hy hs h1 h2 H hO2 hcl
          go_wp2_with (at_builtin; refine wpList_append_run 33 33 (.tmp 44) (.tmp 52) rfl (by rfl) _ _ rfl rfl _ _ hrun ?_)
          go_roundw
          case rel => exact ⟨j + 1, by go_num, by omega, HR⟩
          case measure => simp [intOf]; omega
        · have g1 : (y.ac == ac) = false := by simpa using h1
          clear hy hs h1 H hO2 hcl
          go_wp2_with (at_builtin; refine wpList_append_run 33 33 (.tmp 44) (.tmp 52) rfl (by rfl) _ _ rfl rfl _ _ hrun ?_)
          go_roundw
          case rel => exact ⟨j + 1, by go_num, by omega, HR⟩
          case measure => simp [intOf]; omega
    · obtain rfl : j = n := by omega
      have hF2 := HFF.out.kept0 H.out.2.2
      have ht : Q.take j = Q := List.take_of_length_le (by have := HN.out; omega)
      obtain ⟨hP, kP⟩ := hF2.put H.out.1
      have fz := hF2.free
      have HR : Hid ((∃ u, IsF (wr.setCell ⟨f, 0, none⟩ (.slice a' (canR (Q.take j) ac nm).length c')) f u (canR Q ac nm) ∧ Fresh w u) ∧ Kept [f] w (wr.setCell ⟨f, 0, none⟩ (.slice a' (canR (Q.take j) ac nm).length c'))) := by
        rw [ht] at hP ⊢
        refine ⟨⟨_, hP, fun g hg => H.out.2.1 g ?_⟩, (H.out.2.2.mono (by simp)).trans (by rw [ht] at kP; exact kP) (by simp)⟩
        rw [ht]
        exact hg
      generalize (canR (Q.take j) ac nm).length = m at *
      clear H hF2 hP kP ht
      go_wp2_with fail
      go_ret
      exact ⟨rfl, HR.out⟩
end
end Go.Proofs.Ytelmppfacgdfbaa
