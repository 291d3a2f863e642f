/-
  fits.
-/
import Derived.Test.YtpodoiichpnpjaaDoorFo
import Derived.Test.YtpodoiichpnpjaaDoorKw
namespace Go.Proofs.YtpodoiichpnpjaaDoor
open Go.RowKit
set_option maxRecDepth 100000
set_option linter.unusedVariables false
section
variable {w : World}
set_option maxHeartbeats 1000000 in
theorem fits31 {a b : Option Addr} {nn nc c d : Nat} (hG : Glob w) (x : In) (hn : nn ≤ 1000) (hc : nc ≤ 1000) : Calls Tryd.prog 27 #[.agg #[.slice a nn c, .slice b nc d], .agg #[.int .i64 x.op, .int .i64 x.arg]] w fun e w' => e = .returned (.bool (okI nn nc x)) ∧ Kept [] w w' := by
  by_cases h0 : x.op < 0
  · rw [okI_out (.inl h0)]
    go_enter Tryd.func27, Tryd.ntmps27
    go_wp2_with fail
    go_ret
    exact ⟨rfl, ((Kept.refl [] w).alloc _).alloc _⟩
  by_cases h1 : 24 ≤ x.op
  · rw [okI_out (.inr h1)]
    have h1' : x.op ≥ 24 := h1
    go_enter Tryd.func27, Tryd.ntmps27
    go_wp2_with fail
    go_ret
    exact ⟨rfl, ((Kept.refl [] w).alloc _).alloc _⟩
  obtain ⟨i, hi⟩ : ∃ i : Nat, x.op = (i : Int) := ⟨x.op.toNat, by omega⟩
  have hil : i < 24 := by omega
  obtain ⟨s, k, hw, hk, -, c1⟩ := op_at hG hil
  rw [okI_at hi hw hk, hi]
  have z0 : 0 < w.heap.size := World.block_lt_of_cell? _ _ c1
  rw [Nat.mul_comm] at c1
  have HG := Hid.mk hG
  have hI0 : (0 : Int) ≤ (i : Int) := by omega
  have hI1 : ¬ ((i : Int) < 0) := by omega
  have hI2 : ¬ ((24 : Int) ≤ (i : Int)) := by omega
  have hI3 : (i : Int) < 24 := by omega
  have HC : Hid (∀ W, Calls Tryd.prog 40 #[.agg #[.slice a nn c, .slice b nc d], .int .i64 (k : Int)] W fun e w' => e = .returned (.int .i64 (choiceN nn nc k)) ∧ Kept [] W w') := fun W => choices61 k hk hn hc
  generalize choiceN nn nc k = m at HC ⊢
  generalize x.arg = arg
  clear hi h0 h1 hw hG
  obtain ⟨W0, e0, k0, hz0, hb0, hb1⟩ := box2 w (.cells #[.slice a nn c, .slice b nc d] 43) (.cells #[.int .i64 i, .int .i64 arg] 60)
  have z1 : ∀ z : KW W0, z.w.cell? ⟨w.heap.size + 1, 1, none⟩ = some (.int .i64 arg) := fun z => z.k.cell_eq (by simp [World.cell?, hb1])
  have z2 : ∀ z : KW W0, z.w.cell? ⟨w.heap.size, 0, none⟩ = some (.slice a nn c) := fun z => z.k.cell_eq (by simp [World.cell?, hb0])
  have z3 : ∀ z : KW W0, z.w.cell? ⟨w.heap.size, 1, none⟩ = some (.slice b nc d) := fun z => z.k.cell_eq (by simp [World.cell?, hb0])
  have y0 : W0.cell? ⟨w.heap.size + 1, 0, none⟩ = some (.int .i64 i) := by simp [World.cell?, hb1]
  have y1 : W0.cell? ⟨w.heap.size + 1, 1, none⟩ = some (.int .i64 arg) := by simp [World.cell?, hb1]
  have y2 : W0.cell? ⟨0, i * 2 + 1, none⟩ = some (.int .i64 (k : Int)) := k0.cell_eq c1
  have HK0 := Hid.mk k0
  clear k0 hb0 hb1 hz0 c1
  have base : (∀ R : Bool, Hid ((decide (k = 1) || (decide (0 ≤ arg) && decide (arg < m))) = R) → Calls Tryd.prog 27 #[.agg #[.slice a nn c, .slice b nc d], .agg #[.int .i64 (i : Int), .int .i64 arg]] w fun e w' => e = .returned (.bool R) ∧ Kept [] w w') → Calls Tryd.prog 27 #[.agg #[.slice a nn c, .slice b nc d], .agg #[.int .i64 (i : Int), .int .i64 arg]] w fun e w' => e = .returned (.bool (decide (k = 1) || (decide (0 ≤ arg) && decide (arg < m)))) ∧ Kept [] w w' := fun h => h _ (Hid.mk rfl)
  refine base ?_
  clear base
  intro R HR
  by_cases hk1 : k = 1
  · subst hk1
    obtain rfl : R = true := by rw [← HR.out]; simp
    clear HR
    go_enter Tryd.func27, Tryd.ntmps27
    go_wp2_with fail
    refine wp_region_kw (C := fun W => ∃ z : KW W0, W = z.w) (by kernel_rfl) (by kernel_rfl) ⟨⟨W0.drew, (Kept.refl [] W0).drew⟩, rfl⟩ ?_
    repeat (go_big_quiet_step (first | (go_at_call 40; exact calls_kw (HC.out _)) | fail))
    refine wpQuiet_nil ?_
    rintro _ ⟨z, rfl⟩
    go_wp2_with fail
    go_ret
    exact ⟨rfl, HK0.out.then z.k⟩
  have t1 : ((k : Int) == 1) = false := by simpa using fun e : (k : Int) = 1 => hk1 (by omega)
  by_cases ha : 0 ≤ arg
  · by_cases hm : arg < m
    · obtain rfl : R = true := by rw [← HR.out]; simp [ha, hm]
      clear HR
      go_enter Tryd.func27, Tryd.ntmps27
      go_wp2_with fail
      refine wp_region_kw (C := fun W => ∃ z : KW W0, W = z.w) (by kernel_rfl) (by kernel_rfl) ⟨⟨W0.drew, (Kept.refl [] W0).drew⟩, rfl⟩ ?_
      repeat (go_big_quiet_step (first | (go_at_call 40; exact calls_kw (HC.out _)) | fail))
      refine wpQuiet_nil ?_
      rintro _ ⟨z, rfl⟩
      go_wp2_with fail
      go_ret
      exact ⟨rfl, HK0.out.then z.k⟩
    · obtain rfl : R = false := by rw [← HR.out]; simp [hk1, hm]
      clear HR
      have t2 : decide (arg < m) = false := by simpa using hm
      go_enter Tryd.func27, Tryd.ntmps27
      go_wp2_with fail
      refine wp_region_kw (C := fun W => ∃ z : KW W0, W = z.w) (by kernel_rfl) (by kernel_rfl) ⟨⟨W0.drew, (Kept.refl [] W0).drew⟩, rfl⟩ ?_
      repeat (go_big_quiet_step (first | (go_at_call 40; exact calls_kw (HC.out _)) | fail))
      refine wpQuiet_nil ?_
      rintro _ ⟨z, rfl⟩
      go_wp2_with fail
      go_ret
      exact ⟨rfl, HK0.out.then z.k⟩
  · obtain rfl : R = false := by rw [← HR.out]; simp [hk1, ha]
    clear HR
    have t2 : decide (0 ≤ arg) = false := by simpa using ha
    have t3 : decide (arg ≥ 0) = false := t2
    go_enter Tryd.func27, Tryd.ntmps27
    go_wp2_with fail
    refine wp_region_kw (C := fun W => ∃ z : KW W0, W = z.w) (by kernel_rfl) (by kernel_rfl) ⟨⟨W0.drew, (Kept.refl [] W0).drew⟩, rfl⟩ ?_
    repeat (go_big_quiet_step (first | (go_at_call 40; exact calls_kw (HC.out _)) | fail))
    refine wpQuiet_nil ?_
    rintro _ ⟨z, rfl⟩
    go_wp2_with fail
    go_ret
    exact ⟨rfl, HK0.out.then z.k⟩
end
end Go.Proofs.YtpodoiichpnpjaaDoor
