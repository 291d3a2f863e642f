/-
  RemindNil: the walk.
-/
import Derived.Test.YtmjbkhcfdojpeaaOn
namespace Go.Proofs.Ytmjbkhcfdojpeaa
set_option maxRecDepth 100000
open Go.RowKit Go.Shelf
set_option linter.unusedVariables false
section
variable {w : World}
theorem encode12_nil : Calls Try.prog 12 #[.pointer none] w fun e w' => e = .returned (.slice none 0 0) ∧ w = w' := by
  go_enter Try.func12, Try.ntmps12
  go_wp2_with fail
  go_ret
  exact ⟨rfl, rfl⟩
set_option maxHeartbeats 2000000 in
theorem nil_walk (r : Rm) (now : Int) : Calls Try.prog 8 #[Rv r, Iv now] w fun e w' => e = .returned (.bool true) ∧ Kept [] w w' := by
  obtain ⟨W0, e0, k0, hz0, hb0⟩ := box1 w (.cells #[Sv r.ac, Sv r.nm, Iv r.due, Iv r.per, Iv r.kind] 52)
  have HBX : Hid (∀ W, Kept [] W0 W → W.cell? ⟨w.heap.size, 0, none⟩ = some (Sv r.ac) ∧ W.cell? ⟨w.heap.size, 1, none⟩ = some (Sv r.nm) ∧ W.cell? ⟨w.heap.size, 2, none⟩ = some (Iv r.due) ∧ W.cell? ⟨w.heap.size, 3, none⟩ = some (Iv r.per) ∧ W.cell? ⟨w.heap.size, 4, none⟩ = some (Iv r.kind)) := fun W k => cells5 (k.keeps hb0 (by simp))
  have HK0 := Hid.mk k0
  have HAW : Hid (∀ W, Calls Try.prog 9 #[] W fun e w' => e = .returned (.bool true) ∧ Kept [] W w') := fun W => awake9
  have HD : Hid (∀ W, Calls Try.prog 21 #[.pointer none, Iv now] W fun e w' => e = .returned (.tuple #[.agg #[.string { data := #[] }, .string { data := #[] }, .int .i64 0, .int .i64 0, .int .i64 0], .bool false]) ∧ Kept [] W w') := fun W => due24_nil now
  have HS : Hid (∀ W, Calls Try.prog 19 #[.pointer none, Iv now] W fun e w' => e = .returned (.tuple #[.agg #[.string { data := #[] }, .string { data := #[] }, .int .i64 0, .int .i64 0, .int .i64 0], .bool false]) ∧ Kept [] W w') := fun W => serve19_nil now
  clear k0 hb0 hz0
  obtain ⟨ac, nm, due, per, kind⟩ := r
  dsimp only at *
  by_cases hb1 : 1000 < nm.length
  · have g1 : (1000 : Int) < (nm.length : Int) := by omega
    go_enter Try.func8, Try.ntmps8
    go_wp2_with fail
    refine (HAW.out _).mono ?_
    rintro e w1 ⟨rfl, k1⟩
    obtain ⟨x0, x1, x2, x3, x4⟩ := HBX.out _ k1
    go_wp2_with fail
    refine (HAW.out _).mono ?_
    rintro e w2 ⟨rfl, k2⟩
    go_wp2_with fail
    go_ret
    exact ⟨rfl, (HK0.out.trans k1 (by simp)).trans k2 (by simp)⟩
  · have g1 : ((1000 : Int) < (nm.length : Int)) = False := eq_false (by omega)
    by_cases hb2 : 1000 < ac.length
    · have g2 : (1000 : Int) < (ac.length : Int) := by omega
      go_enter Try.func8, Try.ntmps8
      go_wp2_with fail
      refine (HAW.out _).mono ?_
      rintro e w1 ⟨rfl, k1⟩
      obtain ⟨x0, x1, x2, x3, x4⟩ := HBX.out _ k1
      go_wp2_with fail
      refine (HAW.out _).mono ?_
      rintro e w2 ⟨rfl, k2⟩
      go_wp2_with fail
      go_ret
      exact ⟨rfl, (HK0.out.trans k1 (by simp)).trans k2 (by simp)⟩
    · have g2 : ((1000 : Int) < (ac.length : Int)) = False := eq_false (by omega)
      have HST : Hid (∀ W, Calls Try.prog 17 #[.pointer none, Rv ⟨ac, nm, due, per, kind⟩] W fun e w' => e = .returned (Iv 1) ∧ Kept [] W w') := fun W => set17_nil _ (by dsimp only; omega)
      have HCN : Hid (∀ W, Calls Try.prog 20 #[.pointer none, Sv ac, Sv nm] W fun e w' => e = .returned (.bool false) ∧ Kept [] W w') := fun W => cancel20_nil ac nm
      go_enter Try.func8, Try.ntmps8
      go_wp2_with fail
      refine (HAW.out _).mono ?_
      rintro e w1 ⟨rfl, k1⟩
      obtain ⟨x0, x1, x2, x3, x4⟩ := HBX.out _ k1
      go_wp2_with fail
      refine (HD.out _).mono ?_
      rintro e w2 ⟨rfl, k2⟩
      have K2 := Hid.mk ((k1.trans k2 (by simp)).alloc (.cells #[.string { data := #[] }, .string { data := #[] }, .int .i64 0, .int .i64 0, .int .i64 0] 27))
      clear x0 x1 x2 x3 x4 k1 k2
      go_wp2_with fail
      refine (HS.out _).mono ?_
      rintro e w3 ⟨rfl, k3⟩
      have K3 := Hid.mk ((K2.out.trans k3 (by simp)).alloc (.cells #[.string { data := #[] }, .string { data := #[] }, .int .i64 0, .int .i64 0, .int .i64 0] 27))
      obtain ⟨x0, x1, x2, x3, x4⟩ := HBX.out _ K3.out
      clear k3
      go_wp2_with fail
      refine (HST.out _).mono ?_
      rintro e w4 ⟨rfl, k4⟩
      have K4 := Hid.mk (K3.out.trans k4 (by simp))
      clear x0 x1 x2 x3 x4 k4
      obtain ⟨x0, x1, x2, x3, x4⟩ := HBX.out _ K4.out
      go_wp2_with fail
      refine (HCN.out _).mono ?_
      rintro e w5 ⟨rfl, k5⟩
      have K5 := Hid.mk (K4.out.trans k5 (by simp))
      clear x0 x1 x2 x3 x4 k5
      go_wp2_with fail
      refine all18_nil.mono ?_
      rintro e w6 ⟨rfl, rfl⟩
      go_wp2_with fail
      refine encode12_nil.mono ?_
      rintro e w7 ⟨rfl, rfl⟩
      go_wp2_with fail
      go_ret
      exact ⟨rfl, HK0.out.trans K5.out (by simp)⟩
end
end Go.Proofs.Ytmjbkhcfdojpeaa
