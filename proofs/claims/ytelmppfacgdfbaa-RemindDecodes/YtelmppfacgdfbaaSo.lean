/-
  ours, Same, same.
-/
import Derived.Test.YtelmppfacgdfbaaRu
import Derived.Test.YtelmppfacgdfbaaQk
namespace Go.Proofs.Ytelmppfacgdfbaa
set_option maxRecDepth 100000
open Go.RowKit Go.Shelf
set_option linter.unusedVariables false
section
variable {w : World} {f p : Nat} {Q : List Rm}
set_option maxHeartbeats 1000000 in
theorem same46 {a a' : Option Addr} {n c c' : Nat} (h1 : ReadsR 5 w (.slice a n c) (CR Q)) (h2 : ReadsR 5 w (.slice a' n c') (CR Q)) (hl : n ≤ 1000) : Calls Try.prog 46 #[.slice a n c, .slice a' n c'] w fun e w' => e = .returned (.bool true) ∧ Kept [] w w' := by
  obtain ⟨a1, c1, e, h3, h4⟩ := rowR_form h1
  injection e with e1 e2 e3
  subst e1 e3
  have HN := Hid.mk e2
  obtain ⟨a2, c2, e, h5, h6⟩ := rowR_form h2
  injection e with e1 e2' e3
  subst e1 e3
  have H1 := Hid.mk h1
  have H2 := Hid.mk h2
  have hc1 : n ≤ c := by omega
  have hc2 : n ≤ c' := by omega
  clear h1 h2 h3 h5 e2 e2'
  go_enter Try.func46, Try.ntmps46
  go_wp2_with fail
  go_loopw [13] (fun i wr => ∃ j : Nat, i = .int .i64 (j : Int) ∧ j ≤ n ∧ Hid (Kept [] w wr)) (fun i _ => n - (intOf i).toNat)
  case atStart => exact ⟨0, rfl, by omega, Hid.mk (Kept.refl [] w)⟩
  case round =>
    obtain ⟨j, rfl, hj, kk⟩ := hrel
    by_cases hlt : j < n
    · obtain ⟨y, hy⟩ : ∃ y, Q[j]? = some y := ⟨_, List.getElem?_eq_getElem (by have := HN.out; omega)⟩
      obtain ⟨b, o, rfl, d0, d1, d2, d3, d4⟩ := rowR_at (H1.out.kept kk.out.drew (by simp)) hy
      obtain ⟨b', o', rfl, g0, g1, g2, g3, g4⟩ := rowR_at (H2.out.kept kk.out.drew (by simp)) hy
      have hjI : (j : Int) < (n : Int) := by omega
      have hj0 : (0 : Int) ≤ (j : Int) := by omega
      obtain ⟨ac, nm, due, per, kind⟩ := y
      dsimp only at *
      clear hy
      go_wp2_with fail
      go_region
      have HK := Hid.mk kk.out.drew
      clear d0 d1 d2 d3 d4 g0 g1 g2 g3 g4
      go_wp2_with fail
      go_roundw
      case rel => exact ⟨j + 1, by go_num, by omega, HK⟩
      case measure => simp [intOf]; omega
    · obtain rfl : j = n := by omega
      go_wp2_with fail
      go_ret
      exact ⟨rfl, kk.out⟩
set_option maxHeartbeats 1000000 in
theorem ours47 {a : Option Addr} {n c : Nat} (h1 : ReadsR 5 w (.slice a n c) (CR Q)) (hl : n ≤ 1000) : Calls Try.prog 47 #[.slice a n c] w fun e w' => ∃ a' c', e = .returned (.slice a' n c') ∧ ReadsR 5 w' (.slice a' n c') (CR Q) ∧ Kept [] w w' := by
  obtain ⟨a1, c1, e, h3, h4⟩ := rowR_form h1
  injection e with e1 e2 e3
  subst e1 e3
  have HN := Hid.mk e2
  have H1 := Hid.mk h1
  have hc1 : n ≤ c := by omega
  clear h1 h3 e2
  go_enter Try.func47, Try.ntmps47
  go_wp2_with fail
  go_loopw [7, 3] (fun i u wr => ∃ j : Nat, i = .int .i64 (j : Int) ∧ j ≤ n ∧ Hid (OutC w wr u (Q.take j))) (fun i _ _ => n - (intOf i).toNat)
  case atStart => exact ⟨0, rfl, by omega, Hid.mk ⟨by simp; exact OwnsR.nil _ _ _, fresh_nil _ _, Kept.refl [] w⟩⟩
  case round =>
    obtain ⟨j, rfl, hj, H⟩ := hrel
    obtain ⟨a', c', rfl⟩ := H.out.form
    have htl : (Q.take j).length = j := by rw [List.length_take]; have := HN.out; omega
    rw [htl] at H ⊢
    by_cases hlt : j < n
    · obtain ⟨y, hy⟩ : ∃ y, Q[j]? = some y := ⟨_, List.getElem?_eq_getElem (by have := HN.out; omega)⟩
      obtain ⟨b, o, rfl, d0, d1, d2, d3, d4⟩ := rowR_at (H1.out.kept H.out.2.2 (by simp)) hy
      have hjI : (j : Int) < (n : Int) := by omega
      obtain ⟨ad2, c2, w2, hrun, hO2⟩ := H.out.more (by rw [htl]; omega) y
      rw [htl] at hrun hO2
      have HR : Hid (OutC w w2 (.slice ad2 (j + 1) c2) (Q.take (j + 1))) := by rw [List.take_add_one, hy]; exact hO2
      clear hy H hO2 htl
      go_wp2_with (at_builtin; refine wpList_append_run 33 33 (.tmp 10) (.tmp 15) rfl (by rfl) _ _ rfl rfl _ _ hrun ?_)
      go_roundw
      case rel => exact ⟨j + 1, by go_num, by omega, HR⟩
      case measure => simp [intOf]; omega
    · obtain rfl : j = n := by omega
      have ht : Q.take j = Q := List.take_of_length_le (by have := HN.out; omega)
      have HO := Hid.mk H.out
      rw [ht] at HO
      clear H htl ht
      go_wp2_with fail
      go_ret
      exact ⟨a', c', rfl, HO.out.1.reads (CR_wide Q), HO.out.2.2⟩
set_option maxHeartbeats 1000000 in
theorem same16 (hB : IsQ w p Q) (hF : HasF w f Q) (hQ : GoodQ Q) : Calls Try.prog 16 #[.pointer (some ⟨p, 0, none⟩), .pointer (some ⟨f, 0, none⟩)] w fun e w' => e = .returned (.bool true) ∧ Kept [] w w' := by
  obtain ⟨v, hF⟩ := hF
  have hlen := hQ.len
  obtain ⟨a, c, rfl, hc1, hc2⟩ := rowR_form hF.row
  have HA : Hid (∀ W, Kept [] w W → Calls Try.prog 18 #[.pointer (some ⟨p, 0, none⟩)] W fun e w' => ∃ b, e = .returned (.slice (some ⟨b, 0, none⟩) Q.length Q.length) ∧ ReadsR 5 w' (.slice (some ⟨b, 0, none⟩) Q.length Q.length) (CR Q) ∧ Kept [] W w') := fun W k => by
    refine (all18 (hB.kept0 k) hQ).mono ?_
    rintro e w' ⟨b, rfl, h, k', -⟩
    exact ⟨b, rfl, h.reads (CR_wide Q), k'⟩
  have HO : Hid (∀ (W : World) (a : Option Addr) (c : Nat), ReadsR 5 W (.slice a Q.length c) (CR Q) → Calls Try.prog 47 #[.slice a Q.length c] W fun e w' => ∃ a' c', e = .returned (.slice a' Q.length c') ∧ ReadsR 5 w' (.slice a' Q.length c') (CR Q) ∧ Kept [] W w') := fun W a c h => ours47 h (by omega)
  have HM : Hid (∀ (W : World) (a a' : Option Addr) (c c' : Nat), ReadsR 5 W (.slice a Q.length c) (CR Q) → ReadsR 5 W (.slice a' Q.length c') (CR Q) → Calls Try.prog 46 #[.slice a Q.length c, .slice a' Q.length c'] W fun e w' => e = .returned (.bool true) ∧ Kept [] W w') := fun W a a' c c' h1 h2 => same46 h1 h2 (by omega)
  have HX : Hid (∀ W, Kept [] w W → W.cell? ⟨f, 0, none⟩ = some (.slice a Q.length c)) := fun W k => (hF.kept0 k).cell
  have HRW : Hid (∀ W, Kept [] w W → ReadsR 5 W (.slice a Q.length c) (CR Q)) := fun W k => (hF.kept0 k).row
  have S0 := HX.out _ (Kept.refl [] w).drew
  clear hB hF hQ hc1 hc2
  generalize hn : Q.length = n at *
  clear hn
  go_enter Try.func16, Try.ntmps16
  go_wp2_with fail
  go_region_held3 (fun W => W.cell? ⟨f, 0, none⟩ = some (.slice a n c)) (first | exact S0 | exact S1 | exact S2 | exact S3) (first | (go_at_call 46; refine (HM.out _ _ _ _ _ r2.out (HRW.out _ K2.out)).mono ?_; rintro e w3 ⟨rfl, k3⟩; have K3 := Hid.mk (K2.out.trans k3 (by simp)); clear k3; have S3 := HX.out _ K3.out) | (go_at_call 47; refine (HO.out _ _ _ r1.out).mono ?_; rintro e w2 ⟨a2, c2, rfl, rr2, k2⟩; have r2 := Hid.mk rr2; have K2 := Hid.mk (K1.out.trans k2 (by simp)); clear k2 rr2; have S2 := HX.out _ K2.out) | (go_at_call 18; refine (HA.out _ (Kept.refl [] w).drew).mono ?_; rintro e w1 ⟨b1, rfl, rr1, k1⟩; have r1 := Hid.mk rr1; have K1 := Hid.mk ((Kept.refl [] w).drew.trans k1 (by simp)); clear k1 rr1; have S1 := HX.out _ K1.out))
  go_wp2_with fail
  go_ret
  exact ⟨rfl, K3.out⟩
end
end Go.Proofs.Ytelmppfacgdfbaa
