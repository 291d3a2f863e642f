/-
  The document's Same, of any two programs.
-/
import Derived.Test.YtibapmjgpnldgaaDoorSb
namespace Go.Proofs.YtibapmjgpnldgaaDoor
open Go.RowKit
set_option maxRecDepth 100000
set_option linter.unusedVariables false
section
variable {w : World}
set_option maxHeartbeats 8000000 in
theorem same16_any {v u v' u' : Value} {p q : Pg} (hP : IsP w v u p) (hQ : IsP w v' u' q) : Calls Tryd.prog 16 #[.agg #[v, u], .agg #[v', u']] w fun e w' => e = .returned (.bool (sameP p q)) ∧ Kept [] w w' := by
  obtain ⟨a, c, b, d, rfl, rfl, hl1, hl2⟩ := hP.form
  obtain ⟨a', c', b', d', rfl, rfl, hl3, hl4⟩ := hQ.form
  obtain ⟨W0, e0, k0, hz0, hb0, hb1⟩ := box2 w (.cells #[.slice a p.names.length c, .slice b p.code.length d] 25) (.cells #[.slice a' q.names.length c', .slice b' q.code.length d'] 25)
  obtain ⟨y0, y1⟩ := cells2 hb0
  obtain ⟨y2, y3⟩ := cells2 hb1
  have HP := Hid.mk (hP.keep k0)
  have HQ := Hid.mk (hQ.keep k0)
  have HK0 := Hid.mk k0
  clear k0 hb0 hb1 hz0 hP hQ
  obtain ⟨R, HR⟩ : ∃ R, Hid (sameP p q = R) := ⟨_, rfl⟩
  rw [HR.out]
  by_cases hnl : p.names.length = q.names.length
  case neg =>
    have t1 : ((p.names.length : Int) != (q.names.length : Int)) = true := by simp; omega
    have t2 : ((p.names.length : Int) == (q.names.length : Int)) = false := by simp; omega
    obtain rfl : R = false := by
      rw [← HR.out]
      unfold sameP eqN
      rw [list_len hnl]
      rfl
    clear HR hnl
    go_enter Tryd.func16, Tryd.ntmps16
    go_wp2_with fail
    go_ret
    exact ⟨rfl, HK0.out⟩
  have t1 : ((p.names.length : Int) != (q.names.length : Int)) = false := by simp; omega
  have t2 : ((p.names.length : Int) == (q.names.length : Int)) = true := by simp; omega
  by_cases hcl : p.code.length = q.code.length
  case neg =>
    have t3 : ((p.code.length : Int) != (q.code.length : Int)) = true := by simp; omega
    have t4 : ((p.code.length : Int) == (q.code.length : Int)) = false := by simp; omega
    obtain rfl : R = false := by
      rw [← HR.out]
      unfold sameP eqC
      rw [list_len hcl, Bool.and_false]
    clear HR hnl hcl
    go_enter Tryd.func16, Tryd.ntmps16
    go_wp2_with fail
    go_ret
    exact ⟨rfl, HK0.out⟩
  have t3 : ((p.code.length : Int) != (q.code.length : Int)) = false := by simp; omega
  have t4 : ((p.code.length : Int) == (q.code.length : Int)) = true := by simp; omega
  have HL := Hid.mk (And.intro hnl hcl)
  clear hnl hcl
  obtain ⟨N1, HN1⟩ : ∃ N1, Hid (p.names.length = N1) := ⟨_, rfl⟩
  obtain ⟨N2, HN2⟩ : ∃ N2, Hid (q.names.length = N2) := ⟨_, rfl⟩
  obtain ⟨C1, HC1⟩ : ∃ C1, Hid (p.code.length = C1) := ⟨_, rfl⟩
  obtain ⟨C2, HC2⟩ : ∃ C2, Hid (q.code.length = C2) := ⟨_, rfl⟩
  rw [HN1.out] at t1 t2 y0 hl1 e0 HP ⊢
  rw [HN2.out] at t1 t2 y2 hl3 e0 HQ ⊢
  rw [HC1.out] at t3 t4 y1 hl2 e0 HP ⊢
  rw [HC2.out] at t3 t4 y3 hl4 e0 HQ ⊢
  have HLn : Hid (N1 = N2 ∧ C1 = C2) := by show _ ∧ _; rw [← HN1.out, ← HN2.out, ← HC1.out, ← HC2.out]; exact HL.out
  have z0 : ∀ z : KW W0, z.w.cell? ⟨w.heap.size, 0, none⟩ = some (.slice a N1 c) := fun z => z.k.cell_eq y0
  have z1 : ∀ z : KW W0, z.w.cell? ⟨w.heap.size, 1, none⟩ = some (.slice b C1 d) := fun z => z.k.cell_eq y1
  have z2 : ∀ z : KW W0, z.w.cell? ⟨w.heap.size + 1, 0, none⟩ = some (.slice a' N2 c') := fun z => z.k.cell_eq y2
  have z3 : ∀ z : KW W0, z.w.cell? ⟨w.heap.size + 1, 1, none⟩ = some (.slice b' C2 d') := fun z => z.k.cell_eq y3
  go_enter Tryd.func16, Tryd.ntmps16
  go_wp2_with fail
  go_loopw [26] (fun i wr => ∃ j : Nat, i = .int .i64 (j : Int) ∧ j ≤ N1 ∧ Hid (Kept [] W0 wr) ∧ Hid (∀ i (h1 : i < p.names.length) (h2 : i < q.names.length), i < j → p.names[i] = q.names[i])) (fun i _ => N1 - (intOf i).toNat)
  case atStart => exact ⟨0, rfl, by omega, Hid.mk (Kept.refl [] W0), Hid.mk (fun _ _ _ h => by omega)⟩
  case round =>
    obtain ⟨j, rfl, hj, HW, HJ⟩ := hrel
    by_cases hlt : j < N1
    · have hja : j < p.names.length := by have := HN1.out; omega
      have hjb : j < q.names.length := by have := HN2.out; have := HLn.out; omega
      have hjI : (j : Int) < (N1 : Int) := by omega
      have hjI2 : (j : Int) < (N2 : Int) := by have := HLn.out; omega
      have hjN : j < N2 := by have := HLn.out; omega
      have hj0 : (0 : Int) ≤ (j : Int) := by omega
      have HF : Hid (p.names[j] ≠ q.names[j] → sameP p q = false) := fun h => by
        unfold sameP eqN
        rw [list_at hja hjb h]
        rfl
      have HT : Hid (p.names[j] = q.names[j] → ∀ i (h1 : i < p.names.length) (h2 : i < q.names.length), i < j + 1 → p.names[i] = q.names[i]) := fun h i h1 h2 hij => by
        by_cases e : i = j
        · subst e; exact h
        · exact HJ.out i h1 h2 (by omega)
      obtain ⟨b1, o1, rfl, hc1⟩ := names_at HP.out.names hja
      obtain ⟨b2, o2, rfl, hc2⟩ := names_at HQ.out.names hjb
      have x1 : ∀ z : KW W0, z.w.cell? ⟨b1, o1 + j, none⟩ = some (.string ⟨p.names[j].toArray⟩) := fun z => z.k.cell_eq hc1
      have x2 : ∀ z : KW W0, z.w.cell? ⟨b2, o2 + j, none⟩ = some (.string ⟨q.names[j].toArray⟩) := fun z => z.k.cell_eq hc2
      clear hc1 hc2 HJ
      by_cases he : p.names[j] = q.names[j]
      · have HT' := Hid.mk (HT.out he)
        rw [he] at x1
        clear HT HF he
        generalize q.names[j] = nm at *
        go_wp2_with fail
        refine wp_region_kw (C := fun W => ∃ z : KW W0, W = z.w) (by kernel_rfl) (by kernel_rfl) ⟨⟨wr.drew, HW.out.drew⟩, rfl⟩ ?_
        repeat (go_big_quiet_step (fail))
        refine wpQuiet_nil ?_
        rintro _ ⟨z, rfl⟩
        have HZ := Hid.mk z.k
        go_wp2_with fail
        go_roundw
        case rel => exact ⟨j + 1, by go_num, by omega, HZ, HT'⟩
        case measure => simp [intOf]; omega
      · obtain rfl : R = false := by rw [← HR.out]; exact HF.out he
        have t5 : (p.names[j] == q.names[j]) = false := by simpa using he
        have t6 : (p.names[j] != q.names[j]) = true := by simpa using he
        clear HT HF he HR
        generalize p.names[j] = na at *
        generalize q.names[j] = nb at *
        go_wp2_with fail
        refine wp_region_kw (C := fun W => ∃ z : KW W0, W = z.w) (by kernel_rfl) (by kernel_rfl) ⟨⟨wr.drew, HW.out.drew⟩, rfl⟩ ?_
        repeat (go_big_quiet_step (fail))
        refine wpQuiet_nil ?_
        rintro _ ⟨z, rfl⟩
        have HZ := Hid.mk z.k
        go_wp2_with fail
        go_ret
        exact ⟨rfl, HK0.out.then HZ.out⟩
    · have hjI : ¬ (j : Int) < (N1 : Int) := by omega
      have HJ' : Hid (∀ i (h1 : i < p.names.length) (h2 : i < q.names.length), p.names[i] = q.names[i]) := fun i h1 h2 => HJ.out i h1 h2 (by have := HN1.out; omega)
      have y1' : wr.cell? ⟨w.heap.size, 1, none⟩ = some (.slice b C1 d) := HW.out.cell_eq y1
      clear HJ
      go_wp2_with fail
      go_loopw [44] (fun i wr => ∃ j : Nat, i = .int .i64 (j : Int) ∧ j ≤ C1 ∧ Hid (Kept [] W0 wr) ∧ Hid (∀ i (h1 : i < p.code.length) (h2 : i < q.code.length), i < j → p.code[i] = q.code[i])) (fun i _ => C1 - (intOf i).toNat)
      case atStart => exact ⟨0, rfl, by omega, HW, Hid.mk (fun _ _ _ h => by omega)⟩
      case round =>
        clear HW y1'
        obtain ⟨j, rfl, hj, HW, HJ⟩ := hrel
        by_cases hlt : j < C1
        · have hja : j < p.code.length := by have := HC1.out; omega
          have hjb : j < q.code.length := by have := HC2.out; have := HLn.out; omega
          have hjI : (j : Int) < (C1 : Int) := by omega
          have hjI2 : (j : Int) < (C2 : Int) := by have := HLn.out; omega
          have hjN : j < C2 := by have := HLn.out; omega
          have hj0 : (0 : Int) ≤ (j : Int) := by omega
          have HF : Hid (p.code[j] ≠ q.code[j] → sameP p q = false) := fun h => by
            unfold sameP eqC
            rw [list_at hja hjb h, Bool.and_false]
          have HT : Hid (p.code[j] = q.code[j] → ∀ i (h1 : i < p.code.length) (h2 : i < q.code.length), i < j + 1 → p.code[i] = q.code[i]) := fun h i h1 h2 hij => by
            by_cases e : i = j
            · subst e; exact h
            · exact HJ.out i h1 h2 (by omega)
          obtain ⟨b1, o1, rfl, hc1, hc2⟩ := code_at HP.out.code hja
          obtain ⟨b2, o2, rfl, hc3, hc4⟩ := code_at HQ.out.code hjb
          have x1 : ∀ z : KW W0, z.w.cell? ⟨b1, o1 + j * 2, none⟩ = some (.int .i64 p.code[j].op) := fun z => z.k.cell_eq hc1
          have x2 : ∀ z : KW W0, z.w.cell? ⟨b1, o1 + j * 2 + 1, none⟩ = some (.int .i64 p.code[j].arg) := fun z => z.k.cell_eq hc2
          have x3 : ∀ z : KW W0, z.w.cell? ⟨b2, o2 + j * 2, none⟩ = some (.int .i64 q.code[j].op) := fun z => z.k.cell_eq hc3
          have x4 : ∀ z : KW W0, z.w.cell? ⟨b2, o2 + j * 2 + 1, none⟩ = some (.int .i64 q.code[j].arg) := fun z => z.k.cell_eq hc4
          clear hc1 hc2 hc3 hc4 HJ
          by_cases he : p.code[j] = q.code[j]
          · have HT' := Hid.mk (HT.out he)
            rw [he] at x1 x2
            clear HT HF he
            generalize q.code[j].op = q1 at *
            generalize q.code[j].arg = q2 at *
            go_wp2_with fail
            refine wp_region_kw (C := fun W => ∃ z : KW W0, W = z.w) (by kernel_rfl) (by kernel_rfl) ⟨⟨wr.drew, HW.out.drew⟩, rfl⟩ ?_
            repeat (go_big_quiet_step (fail))
            refine wpQuiet_nil ?_
            rintro _ ⟨z, rfl⟩
            have HZ := Hid.mk z.k
            go_wp2_with fail
            go_roundw
            case rel => exact ⟨j + 1, by go_num, by omega, HZ, HT'⟩
            case measure => simp [intOf]; omega
          · obtain rfl : R = false := by rw [← HR.out]; exact HF.out he
            have hn := In.ne he
            clear HT HF he HR
            generalize p.code[j].op = q1 at *
            generalize p.code[j].arg = q2 at *
            generalize q.code[j].op = q3 at *
            generalize q.code[j].arg = q4 at *
            rcases hn with hn | ⟨rfl, hn⟩
            · have t5 : (q1 == q3) = false := by simpa using hn
              have t6 : (q1 != q3) = true := by simpa using hn
              clear hn
              go_wp2_with fail
              refine wp_region_kw (C := fun W => ∃ z : KW W0, W = z.w) (by kernel_rfl) (by kernel_rfl) ⟨⟨wr.drew, HW.out.drew⟩, rfl⟩ ?_
              repeat (go_big_quiet_step (fail))
              refine wpQuiet_nil ?_
              rintro _ ⟨z, rfl⟩
              have HZ := Hid.mk z.k
              go_wp2_with fail
              go_ret
              exact ⟨rfl, HK0.out.then HZ.out⟩
            · have t5 : (q2 == q4) = false := by simpa using hn
              have t6 : (q2 != q4) = true := by simpa using hn
              clear hn
              go_wp2_with fail
              refine wp_region_kw (C := fun W => ∃ z : KW W0, W = z.w) (by kernel_rfl) (by kernel_rfl) ⟨⟨wr.drew, HW.out.drew⟩, rfl⟩ ?_
              repeat (go_big_quiet_step (fail))
              refine wpQuiet_nil ?_
              rintro _ ⟨z, rfl⟩
              have HZ := Hid.mk z.k
              go_wp2_with fail
              go_ret
              exact ⟨rfl, HK0.out.then HZ.out⟩
        · have hjI : ¬ (j : Int) < (C1 : Int) := by omega
          obtain rfl : R = true := by
            rw [← HR.out]
            unfold sameP eqN eqC
            rw [list_all (by rw [HN1.out, HN2.out]; exact HLn.out.1) HJ'.out, list_all (by rw [HC1.out, HC2.out]; exact HLn.out.2) (fun i h1 h2 => HJ.out i h1 h2 (by have := HC1.out; omega))]
            rfl
          clear HR HJ
          go_wp2_with fail
          go_ret
          exact ⟨rfl, HK0.out.then HW.out⟩
end
end Go.Proofs.YtibapmjgpnldgaaDoor
