import Derived.Test.YtibapmjgpnldgaaGreatDoorQ18
import Derived.Test.YtibapmjgpnldgaaGreatDoorQ19
import Derived.Test.YtibapmjgpnldgaaGreatDoorQ20
/-
  parseInstr.
-/
namespace Go.Proofs.YtibapmjgpnldgaaGreatDoor
open Go.RowKit
set_option maxRecDepth 100000
set_option linter.unusedVariables false
/-- What parseInstr answers. -/
def InsAt (s : List UInt8) (e : Ending) : Prop := (∃ (i k : Nat) (arg : Int), words[i]? = some ((cutC 32 s).1, k) ∧ insP s k = some arg ∧ e = .returned (.tuple #[.agg #[.int .i64 (i : Nat), .int .i64 arg], .bool true])) ∨
  (((∀ x ∈ words, x.1 ≠ (cutC 32 s).1) ∨ ∃ (i k : Nat), words[i]? = some ((cutC 32 s).1, k) ∧ insP s k = none) ∧ ∃ a b : Int, e = .returned (.tuple #[.agg #[.int .i64 a, .int .i64 b], .bool false]))
section
variable {w : World}
set_option maxHeartbeats 1000000 in
theorem parseInstr37 (hG : Glob w) (s : List UInt8) (hs : s.length ≤ 100000) : Calls Tryz.prog 29 #[.string ⟨s.toArray⟩] w fun e w' => InsAt s e ∧ Kept [] w w' := by
  obtain ⟨hl1, hl2, -⟩ := cutC_length 32 s
  obtain ⟨W0, e0, k0, hz0, hb0⟩ := box1 w (.cells #[.int .i64 0, .int .i64 0] 45)
  have HC := Hid.mk (cut35 (hG.kept k0) 32 s hs)
  have HF : Hid (∀ W, Kept [] W0 W → Calls Tryz.prog 56 #[.string ⟨(cutC 32 s).1.toArray⟩] W fun e w' => FindAt (cutC 32 s).1 e ∧ Kept [] W w') := fun W k => find64 (hG.kept (k0.then k)) _
  have HI : Hid (∀ W, Kept [] W0 W → Calls Tryz.prog 57 #[.string ⟨(cutC 32 s).2.1.toArray⟩] W fun e w' => IntAt (cutC 32 s).2.1 e ∧ Kept [] W w') := fun W k => parseInt65 (hG.kept (k0.then k)) _ (by omega)
  have HO : Hid (∀ W, Kept [] W0 W → ∀ (i : Nat) (k : Nat), words[i]? = some ((cutC 32 s).1, k) → W.cell? ⟨0, i * 2 + 1, none⟩ = some (.int .i64 (k : Int)) ∧ i < 24) := fun W k i n h => ⟨by rw [Nat.mul_comm]; exact ((hG.kept (k0.then k)).ops i _ _ h).2, (List.getElem?_eq_some_iff.1 h).1⟩
  have HA : Hid ((∀ (i k : Nat) (arg : Int), words[i]? = some ((cutC 32 s).1, k) → insP s k = some arg → InsAt s (.returned (.tuple #[.agg #[.int .i64 (i : Nat), .int .i64 arg], .bool true]))) ∧ ∀ (a b : Int), ((∀ x ∈ words, x.1 ≠ (cutC 32 s).1) ∨ ∃ (i k : Nat), words[i]? = some ((cutC 32 s).1, k) ∧ insP s k = none) → InsAt s (.returned (.tuple #[.agg #[.int .i64 a, .int .i64 b], .bool false]))) := ⟨fun i k arg h1 h2 => .inl ⟨i, k, arg, h1, h2, rfl⟩, fun a b h => .inr ⟨h, a, b, rfl⟩⟩
  have HP : Hid (∀ k, insP s k = if k = 0 then (if (cutC 32 s).2.2 = true then none else some 0) else intD (cutC 32 s).2.1) := fun k => rfl
  generalize InsAt s = NA at *
  generalize insP s = pr at *
  generalize (cutC 32 s).1 = wd at *
  generalize (cutC 32 s).2.1 = dg at *
  generalize (cutC 32 s).2.2 = bl at *
  have HK0 := Hid.mk k0
  have HB0 := Hid.mk hb0
  clear hG k0 hb0 hz0
  go_enter Tryz.func29, Tryz.ntmps29
  go_wp2_with fail
  refine HC.out.mono ?_
  rintro e w1 ⟨rfl, k1⟩
  have HK1 := Hid.mk k1
  clear k1
  go_wp2_with fail
  refine (HF.out w1 HK1.out).mono ?_
  rintro e w2 ⟨hf, k2⟩
  have HK2 := Hid.mk (HK1.out.then k2)
  clear k2
  rcases hf with ⟨i, k, hw, rfl⟩ | ⟨hw, rfl⟩
  · obtain ⟨c1, hil⟩ := HO.out w2 HK2.out i k hw
    have hI0 : (0 : Int) ≤ (i : Int) := by omega
    have hI3 : (i : Int) < 24 := by omega
    have HW := Hid.mk hw
    obtain ⟨d0, d1⟩ := cells2 (HK2.out.keeps HB0.out (by simp))
    obtain ⟨g0, g1⟩ := free2 (HK2.out.keeps HB0.out (by simp))
    clear hw HO HF HC
    by_cases hk : k = 0
    · subst hk
      cases bl with
      | true =>
        have HN : Hid (pr 0 = none) := HP.out 0
        go_wp2_with fail
        obtain ⟨W5, e5, k5, hb5⟩ := put2 (HK2.out.keeps HB0.out (by simp)) (.int .i64 (i : Int)) (.int .i64 0)
        rw [e5]
        clear e5
        refine bodyPost_ret (results_cell_row2 (p := 2) (u := 3) (ty := 45) rfl _ _ w.heap.size 45 _ (0, 0) _ rfl hb5 Tryz.underlying45 rfl (by kernel_rfl) _ rfl) rfl ?_
        exact ⟨HA.out.2 _ _ (.inr ⟨i, 0, HW.out, HN.out⟩), (HK0.out.then HK2.out).trans k5 (fun y hy => by simp at hy; subst hy; exact .inr (Nat.le_refl _))⟩
      | false =>
        have HN : Hid (pr 0 = some 0) := HP.out 0
        go_wp2_with fail
        obtain ⟨W5, e5, k5, hb5⟩ := put2 (HK2.out.keeps HB0.out (by simp)) (.int .i64 (i : Int)) (.int .i64 0)
        rw [e5]
        clear e5
        refine bodyPost_ret (results_cell_row2 (p := 2) (u := 3) (ty := 45) rfl _ _ w.heap.size 45 _ (0, 0) _ rfl hb5 Tryz.underlying45 rfl (by kernel_rfl) _ rfl) rfl ?_
        exact ⟨HA.out.1 i 0 0 HW.out (HN.out), (HK0.out.then HK2.out).trans k5 (fun y hy => by simp at hy; subst hy; exact .inr (Nat.le_refl _))⟩
    · have t0 : ((k : Int) == 0) = false := by simpa using hk
      have HN : Hid (pr k = intD dg) := by show _ = _; rw [HP.out, if_neg hk]
      go_wp2_with fail
      refine (HI.out w2 HK2.out).mono ?_
      rintro e w3 ⟨hi, k3⟩
      have HK3 := Hid.mk (HK2.out.then k3)
      clear k3 d0 d1 g0 g1
      obtain ⟨d0, d1⟩ := cells2 (HK3.out.keeps HB0.out (by simp))
      obtain ⟨g0, g1⟩ := free2 (HK3.out.keeps HB0.out (by simp))
      rcases hi with ⟨z, hz, rfl⟩ | ⟨hz, z, rfl⟩
      · have HZ := Hid.mk hz
        clear hz
        go_wp2_with fail
        obtain ⟨W5, e5, k5, hb5⟩ := put2 (HK3.out.keeps HB0.out (by simp)) (.int .i64 (i : Int)) (.int .i64 z)
        rw [e5]
        clear e5
        refine bodyPost_ret (results_cell_row2 (p := 2) (u := 3) (ty := 45) rfl _ _ w.heap.size 45 _ (0, 0) _ rfl hb5 Tryz.underlying45 rfl (by kernel_rfl) _ rfl) rfl ?_
        exact ⟨HA.out.1 i k z HW.out (HN.out.trans HZ.out), (HK0.out.then HK3.out).trans k5 (fun y hy => by simp at hy; subst hy; exact .inr (Nat.le_refl _))⟩
      · have HZ := Hid.mk hz
        clear hz
        go_wp2_with fail
        obtain ⟨W5, e5, k5, hb5⟩ := put2 (HK3.out.keeps HB0.out (by simp)) (.int .i64 (i : Int)) (.int .i64 z)
        rw [e5]
        clear e5
        refine bodyPost_ret (results_cell_row2 (p := 2) (u := 3) (ty := 45) rfl _ _ w.heap.size 45 _ (0, 0) _ rfl hb5 Tryz.underlying45 rfl (by kernel_rfl) _ rfl) rfl ?_
        exact ⟨HA.out.2 _ _ (.inr ⟨i, k, HW.out, HN.out.trans HZ.out⟩), (HK0.out.then HK3.out).trans k5 (fun y hy => by simp at hy; subst hy; exact .inr (Nat.le_refl _))⟩
  · have HW := Hid.mk hw
    obtain ⟨d0, d1⟩ := cells2 (HK2.out.keeps HB0.out (by simp))
    obtain ⟨g0, g1⟩ := free2 (HK2.out.keeps HB0.out (by simp))
    clear hw HO HF HC
    go_wp2_with fail
    obtain ⟨W5, e5, k5, hb5⟩ := put2 (HK2.out.keeps HB0.out (by simp)) (.int .i64 0) (.int .i64 0)
    rw [e5]
    clear e5
    refine bodyPost_ret (results_cell_row2 (p := 2) (u := 3) (ty := 45) rfl _ _ w.heap.size 45 _ (0, 0) _ rfl hb5 Tryz.underlying45 rfl (by kernel_rfl) _ rfl) rfl ?_
    exact ⟨HA.out.2 _ _ (.inl HW.out), (HK0.out.then HK2.out).trans k5 (fun y hy => by simp at hy; subst hy; exact .inr (Nat.le_refl _))⟩
end
end Go.Proofs.YtibapmjgpnldgaaGreatDoor
