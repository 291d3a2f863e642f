import Derived.Test.YtibapmjgpnldgaaGreatDoorQ19
/-
  The document's Key and Same.
-/
namespace Go.Proofs.YtibapmjgpnldgaaGreatDoor
open Go.RowKit
set_option maxRecDepth 100000
set_option linter.unusedVariables false
section
variable {w : World}
set_option maxHeartbeats 1000000 in
theorem key32 (s : List UInt8) (hs : s.length ≤ 9223372036854775807) : Calls Tryz.prog 64 #[.string ⟨s.toArray⟩] w fun e w' => e = .returned (.bool (isKey s)) ∧ w = w' := by
  have hz : (⟨s.toArray⟩ : ByteArray).size = s.length := by simp [ByteArray.size]
  unfold isKey
  by_cases h1 : 1 ≤ s.length
  · have h1' : (1 : Int) ≤ (s.length : Int) := by omega
    by_cases h2 : s.length ≤ 40
    · have h2' : (s.length : Int) ≤ 40 := by omega
      have e : (decide (1 ≤ s.length) && decide (s.length ≤ 40)) = true := by simp [h1, h2]
      rw [e]
      go_enter Tryz.func64, Tryz.ntmps64
      go_wp2_with fail
      go_ret
      exact ⟨rfl, rfl⟩
    · have h2' : ¬ (s.length : Int) ≤ 40 := by omega
      have e : (decide (1 ≤ s.length) && decide (s.length ≤ 40)) = false := by simp [h2]
      rw [e]
      go_enter Tryz.func64, Tryz.ntmps64
      go_wp2_with fail
      go_ret
      exact ⟨rfl, rfl⟩
  · have h1' : ¬ (1 : Int) ≤ (s.length : Int) := by omega
    have e : (decide (1 ≤ s.length) && decide (s.length ≤ 40)) = false := by simp [h1]
    rw [e]
    go_enter Tryz.func64, Tryz.ntmps64
    go_wp2_with fail
    go_ret
    exact ⟨rfl, rfl⟩
set_option maxHeartbeats 4000000 in
/-- Of two programs that are the same. -/
theorem same16 {v u v' u' : Value} {p : Pg} (hP : IsP w v u p) (hQ : IsP w v' u' p) : Calls Tryz.prog 22 #[.agg #[v, u], .agg #[v', u']] w fun e w' => e = .returned (.bool true) ∧ Kept [] w w' := by
  obtain ⟨a, c, b, d, rfl, rfl, hl1, hl2⟩ := hP.form
  obtain ⟨a', c', b', d', rfl, rfl, -, -⟩ := hQ.form
  obtain ⟨W0, e0, k0, hz0, hb0, hb1⟩ := box2 w (.cells #[.slice a p.names.length c, .slice b p.code.length d] 25) (.cells #[.slice a' p.names.length c', .slice b' p.code.length d'] 25)
  obtain ⟨y0, y1⟩ := cells2 hb0
  obtain ⟨y2, y3⟩ := cells2 hb1
  have HP := Hid.mk (hP.keep k0)
  have HQ := Hid.mk (hQ.keep k0)
  have HK0 := Hid.mk k0
  clear k0 hb0 hb1 hz0 hP hQ
  have z0 : ∀ z : KW W0, z.w.cell? ⟨w.heap.size, 0, none⟩ = some (.slice a p.names.length c) := fun z => z.k.cell_eq y0
  have z1 : ∀ z : KW W0, z.w.cell? ⟨w.heap.size, 1, none⟩ = some (.slice b p.code.length d) := fun z => z.k.cell_eq y1
  have z2 : ∀ z : KW W0, z.w.cell? ⟨w.heap.size + 1, 0, none⟩ = some (.slice a' p.names.length c') := fun z => z.k.cell_eq y2
  have z3 : ∀ z : KW W0, z.w.cell? ⟨w.heap.size + 1, 1, none⟩ = some (.slice b' p.code.length d') := fun z => z.k.cell_eq y3
  go_enter Tryz.func22, Tryz.ntmps22
  go_wp2_with fail
  go_loopw [26] (fun i wr => ∃ j : Nat, i = .int .i64 (j : Int) ∧ j ≤ p.names.length ∧ Hid (Kept [] W0 wr)) (fun i _ => p.names.length - (intOf i).toNat)
  case atStart => exact ⟨0, rfl, by omega, Hid.mk (Kept.refl [] W0)⟩
  case round =>
    obtain ⟨j, rfl, hj, HW⟩ := hrel
    by_cases hlt : j < p.names.length
    · obtain ⟨b1, o1, rfl, hc1⟩ := names_at HP.out.names hlt
      obtain ⟨b2, o2, rfl, hc2⟩ := names_at HQ.out.names hlt
      have hjI : (j : Int) < (p.names.length : Int) := by omega
      have hj0 : (0 : Int) ≤ (j : Int) := by omega
      have x1 : ∀ z : KW W0, z.w.cell? ⟨b1, o1 + j, none⟩ = some (.string ⟨p.names[j].toArray⟩) := fun z => z.k.cell_eq hc1
      have x2 : ∀ z : KW W0, z.w.cell? ⟨b2, o2 + j, none⟩ = some (.string ⟨p.names[j].toArray⟩) := fun z => z.k.cell_eq hc2
      clear hc1 hc2
      generalize p.names[j] = nm at *
      go_wp2_with fail
      refine wp_region_kw (C := fun W => ∃ z : KW W0, W = z.w) (by kernel_rfl) (by kernel_rfl) ⟨⟨wr.drew, HW.out.drew⟩, rfl⟩ ?_
      repeat (go_big_quiet_step (fail))
      refine wpQuiet_nil ?_
      rintro _ ⟨z, rfl⟩
      have HZ := Hid.mk z.k
      go_wp2_with fail
      go_roundw
      case rel => exact ⟨j + 1, by go_num, by omega, HZ⟩
      case measure => simp [intOf]; omega
    · have hje : ¬ (j : Int) < (p.names.length : Int) := by omega
      have y1' : wr.cell? ⟨w.heap.size, 1, none⟩ = some (.slice b p.code.length d) := HW.out.cell_eq y1
      go_wp2_with fail
      go_loopw [44] (fun i wr => ∃ j : Nat, i = .int .i64 (j : Int) ∧ j ≤ p.code.length ∧ Hid (Kept [] W0 wr)) (fun i _ => p.code.length - (intOf i).toNat)
      case atStart => exact ⟨0, rfl, by omega, HW⟩
      case round =>
        obtain ⟨l, rfl, hl, HV⟩ := hrel
        by_cases hlt2 : l < p.code.length
        · obtain ⟨b1, o1, rfl, hc1, hc2⟩ := code_at HP.out.code hlt2
          obtain ⟨b2, o2, rfl, hc3, hc4⟩ := code_at HQ.out.code hlt2
          have hjI : (l : Int) < (p.code.length : Int) := by omega
          have hj0 : (0 : Int) ≤ (l : Int) := by omega
          have x1 : ∀ z : KW W0, z.w.cell? ⟨b1, o1 + l * 2, none⟩ = some (.int .i64 p.code[l].op) := fun z => z.k.cell_eq hc1
          have x2 : ∀ z : KW W0, z.w.cell? ⟨b1, o1 + l * 2 + 1, none⟩ = some (.int .i64 p.code[l].arg) := fun z => z.k.cell_eq hc2
          have x3 : ∀ z : KW W0, z.w.cell? ⟨b2, o2 + l * 2, none⟩ = some (.int .i64 p.code[l].op) := fun z => z.k.cell_eq hc3
          have x4 : ∀ z : KW W0, z.w.cell? ⟨b2, o2 + l * 2 + 1, none⟩ = some (.int .i64 p.code[l].arg) := fun z => z.k.cell_eq hc4
          clear hc1 hc2 hc3 hc4
          generalize p.code[l].op = q1 at *
          generalize p.code[l].arg = q2 at *
          go_wp2_with fail
          refine wp_region_kw (C := fun W => ∃ z : KW W0, W = z.w) (by kernel_rfl) (by kernel_rfl) ⟨⟨wr.drew, HV.out.drew⟩, rfl⟩ ?_
          repeat (go_big_quiet_step (fail))
          refine wpQuiet_nil ?_
          rintro _ ⟨z, rfl⟩
          have HZ := Hid.mk z.k
          go_wp2_with fail
          go_roundw
          case rel => exact ⟨l + 1, by go_num, by omega, HZ⟩
          case measure => simp [intOf]; omega
        · have hje2 : ¬ (l : Int) < (p.code.length : Int) := by omega
          go_wp2_with fail
          go_ret
          exact ⟨rfl, HK0.out.then HV.out⟩
end
end Go.Proofs.YtibapmjgpnldgaaGreatDoor
