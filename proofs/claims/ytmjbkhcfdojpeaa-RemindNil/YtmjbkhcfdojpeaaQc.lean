/-
  cmp.Or, inOrder.
-/
import Derived.Test.YtmjbkhcfdojpeaaQa
namespace Go.Proofs.Ytmjbkhcfdojpeaa
set_option maxRecDepth 100000
open Go.RowKit Go.Shelf
set_option linter.unusedVariables false
/-- What cmp.Or answers. -/
def or3 (x y z : Int) : Int := if x ≠ 0 then x else if y ≠ 0 then y else z
section
variable {w : World}
set_option maxHeartbeats 1000000 in
theorem or69 {b : Nat} {t : TypeId} (x y z : Int) (hb : w.heap[b]? = some (.cells #[Iv x, Iv y, Iv z] t (0, 0))) : Calls Try.prog 69 #[.slice (some ⟨b, 0, none⟩) 3 3] w fun e w' => e = .returned (Iv (or3 x y z)) ∧ w = w' := by
  have c0 : w.cell? ⟨b, 0, none⟩ = some (Iv x) := by simp [World.cell?, hb]
  have c1 : w.cell? ⟨b, 1, none⟩ = some (Iv y) := by simp [World.cell?, hb]
  have c2 : w.cell? ⟨b, 2, none⟩ = some (Iv z) := by simp [World.cell?, hb]
  clear hb
  obtain ⟨R, hR⟩ : ∃ R, Hid (or3 x y z = R) := ⟨_, rfl⟩
  rw [hR.out]
  go_enter Try.func69, Try.ntmps69
  go_wp2_with fail
  go_loopw [8] (fun i wr => ∃ j : Nat, Hid (w = wr) ∧ i = .int .i64 (j : Int) ∧ j ≤ 3 ∧ Hid ((0 < j → x = 0) ∧ (1 < j → y = 0) ∧ (2 < j → z = 0))) (fun i _ => 3 - (intOf i).toNat)
  case atStart => exact ⟨0, Hid.mk rfl, rfl, by omega, Hid.mk ⟨by omega, by omega, by omega⟩⟩
  case round =>
    obtain ⟨j, hw, rfl, hj, H⟩ := hrel
    obtain rfl := hw.out
    clear hw
    by_cases hlt : j < 3
    · have hjI : (j : Int) < 3 := by omega
      have hj0 : (0 : Int) ≤ (j : Int) := by omega
      obtain ⟨v, hv, hz, hr⟩ : ∃ v : Int, w.cell? ⟨b, j * 1, none⟩ = some (Iv v) ∧ Hid (v = 0 → (0 < j + 1 → x = 0) ∧ (1 < j + 1 → y = 0) ∧ (2 < j + 1 → z = 0)) ∧ Hid (v ≠ 0 → R = v) := by
        match j, hlt, H with
        | 0, _, H => exact ⟨x, c0, fun h => ⟨fun _ => h, by omega, by omega⟩, fun h => by rw [← hR.out, or3, if_pos h]⟩
        | 1, _, H => exact ⟨y, c1, fun h => ⟨fun _ => H.out.1 (by omega), fun _ => h, by omega⟩, fun h => by rw [← hR.out, or3, if_neg (by simp [H.out.1]), if_pos h]⟩
        | 2, _, H => exact ⟨z, c2, fun h => ⟨fun _ => H.out.1 (by omega), fun _ => H.out.2.1 (by omega), fun _ => h⟩, fun h => by rw [← hR.out, or3, if_neg (by simp [H.out.1]), if_neg (by simp [H.out.2.1])]⟩
      rw [Nat.mul_one] at hv
      by_cases h0 : v = 0
      · subst h0
        go_wp2_with fail
        go_roundw
        case rel => exact ⟨j + 1, by trivial, by go_num, by omega, hz.out rfl⟩
        case measure => simp [intOf]; omega
      · have hne : (v != 0) = true := by simpa using h0
        have e := hr.out h0
        subst e
        go_wp2_with fail
        go_ret
        exact ⟨rfl, rfl⟩
    · obtain rfl : j = 3 := by omega
      have e : R = 0 := by
        rw [← hR.out, or3, if_neg (by simp [H.out.1]), if_neg (by simp [H.out.2.1])]
        exact H.out.2.2 (by omega)
      subst e
      go_wp2_with fail
      go_ret
      exact ⟨rfl, rfl⟩
/-- What inOrder answers. -/
def ordI (a b : Rm) : Int := or3 (cmpI a.due b.due) (Lib.compareBytes a.ac b.ac) (Lib.compareBytes a.nm b.nm)
set_option maxHeartbeats 1000000 in
theorem inOrder61 (a b : Rm) (w : World) : Calls Try.prog 61 #[Rv a, Rv b] w fun e w' => e = .returned (Iv (ordI a b)) ∧ Kept [] w w' := by
  have HC0 : Hid (∀ W, Calls Try.prog 70 #[Iv a.due, Iv b.due] W fun e w' => e = .returned (Iv (cmpI a.due b.due)) ∧ w' = W) := fun W => (cmp70 a.due b.due W).mono fun e w' h => ⟨h.1, h.2.symm⟩
  have HC1 : Hid (∀ W, Calls Try.prog 71 #[Sv a.ac, Sv b.ac] W fun e w' => e = .returned (Iv (Lib.compareBytes a.ac b.ac)) ∧ w' = W) := fun W => (cmp71 a.ac b.ac W).mono fun e w' h => ⟨h.1, h.2.symm⟩
  have HC2 : Hid (∀ W, Calls Try.prog 71 #[Sv a.nm, Sv b.nm] W fun e w' => e = .returned (Iv (Lib.compareBytes a.nm b.nm)) ∧ w' = W) := fun W => (cmp71 a.nm b.nm W).mono fun e w' h => ⟨h.1, h.2.symm⟩
  have HO : Hid (∀ (g : Nat) (V : World), V.heap[g]? = some (.cells #[Iv (cmpI a.due b.due), Iv (Lib.compareBytes a.ac b.ac), Iv (Lib.compareBytes a.nm b.nm)] 3 (0, 0)) → Calls Try.prog 69 #[.slice (some ⟨g, 0, none⟩) 3 3] V fun e w' => e = .returned (Iv (ordI a b)) ∧ w' = V) := fun g V hg => (or69 _ _ _ hg).mono fun e w' h => ⟨h.1, h.2.symm⟩
  generalize ordI a b = R at HO ⊢
  generalize cmpI a.due b.due = r0 at HC0 HO
  generalize Lib.compareBytes a.ac b.ac = r1 at HC1 HO
  generalize Lib.compareBytes a.nm b.nm = r2 at HC2 HO
  obtain ⟨ac, nm, due, per, kind⟩ := a
  obtain ⟨ac', nm', due', per', kind'⟩ := b
  dsimp only at HC0 HC1 HC2 ⊢
  go_enter Try.func61, Try.ntmps61
  go_wp2_with fail
  obtain ⟨W0, e0, k0, hz0, hb0, hb1⟩ := box2 w (.cells #[Sv ac, Sv nm, Iv due, Iv per, Iv kind] 27) (.cells #[Sv ac', Sv nm', Iv due', Iv per', Iv kind'] 27)
  rw [e0]
  clear e0
  have kd : Kept [] w W0 := k0
  have HS : Hid (∀ W, Kept [] W0 W → (W.cell? ⟨w.heap.size, 0, none⟩ = some (Sv ac) ∧ W.cell? ⟨w.heap.size, 1, none⟩ = some (Sv nm) ∧ W.cell? ⟨w.heap.size, 2, none⟩ = some (Iv due)) ∧ W.cell? ⟨w.heap.size + 1, 0, none⟩ = some (Sv ac') ∧ W.cell? ⟨w.heap.size + 1, 1, none⟩ = some (Sv nm') ∧ W.cell? ⟨w.heap.size + 1, 2, none⟩ = some (Iv due')) := fun W k => by
    obtain ⟨h0, h1, h2, -⟩ := cells5 (k.keeps hb0 (by simp))
    obtain ⟨g0, g1, g2, -⟩ := cells5 (k.keeps hb1 (by simp))
    exact ⟨⟨h0, h1, h2⟩, g0, g1, g2⟩
  have S0 := HS.out _ (Kept.refl [] W0).drew
  have S1 := HS.out _ ((Kept.refl [] W0).alloc (.cells #[Iv r0, Iv r1, Iv r2] 3)).drew
  have HN : Hid ((W0.alloc (.cells #[Iv r0, Iv r1, Iv r2] 3)).drew.heap[W0.heap.size]? = some (.cells #[Iv r0, Iv r1, Iv r2] 3 (0, 0))) := heap_alloc_new W0 (.cells #[Iv r0, Iv r1, Iv r2] 3)
  have HKD := Hid.mk kd
  clear hb0 hb1 k0 kd hz0
  go_region_held3 (fun W => (W.cell? ⟨w.heap.size, 0, none⟩ = some (Sv ac) ∧ W.cell? ⟨w.heap.size, 1, none⟩ = some (Sv nm) ∧ W.cell? ⟨w.heap.size, 2, none⟩ = some (Iv due)) ∧ W.cell? ⟨w.heap.size + 1, 0, none⟩ = some (Sv ac') ∧ W.cell? ⟨w.heap.size + 1, 1, none⟩ = some (Sv nm') ∧ W.cell? ⟨w.heap.size + 1, 2, none⟩ = some (Iv due')) (first | with_reducible exact S0 | with_reducible exact S1) (first | (go_at_call 69; refine (HO.out _ _ HN.out).mono ?_; rintro e w2 ⟨rfl, rfl⟩) | (go_at_call 71; refine (HC2.out _).mono ?_; rintro e w2 ⟨rfl, rfl⟩) | (go_at_call 71; refine (HC1.out _).mono ?_; rintro e w2 ⟨rfl, rfl⟩) | (go_at_call 70; refine (HC0.out _).mono ?_; rintro e w2 ⟨rfl, rfl⟩))
  go_wp2_with fail
  go_ret
  exact ⟨rfl, (HKD.out.alloc _).drew⟩
end
end Go.Proofs.Ytmjbkhcfdojpeaa
