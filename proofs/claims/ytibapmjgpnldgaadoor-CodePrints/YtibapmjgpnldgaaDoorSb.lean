/-
  Same, of any two programs: the program's and the document's.
-/
import Derived.Test.YtibapmjgpnldgaaDoorSa
namespace Go.Proofs.YtibapmjgpnldgaaDoor
open Go.RowKit
set_option maxRecDepth 100000
set_option linter.unusedVariables false
instance decIn : DecidableEq In := fun x y => if h : x.op = y.op ∧ x.arg = y.arg then isTrue (by cases x; cases y; simp_all) else isFalse (fun e => h (by subst e; exact ⟨rfl, rfl⟩))
theorem In.ne {x y : In} (h : x ≠ y) : x.op ≠ y.op ∨ x.op = y.op ∧ x.arg ≠ y.arg := by
  by_cases h1 : x.op = y.op
  · exact .inr ⟨h1, fun h2 => h (by cases x; cases y; simp_all)⟩
  · exact .inl h1
def eqN (a b : List (List UInt8)) : Bool := decide (a = b)
def eqC (a b : List In) : Bool := decide (a = b)
/-- Two programs are the same. -/
def sameP (p q : Pg) : Bool := eqN p.names q.names && eqC p.code q.code
theorem list_len {α : Type} {a b : List α} [DecidableEq α] (h : a.length ≠ b.length) : decide (a = b) = false := by
  simp only [decide_eq_false_iff_not]
  exact fun e => h (by rw [e])
theorem list_at {α : Type} {a b : List α} [DecidableEq α] {j : Nat} (h1 : j < a.length) (h2 : j < b.length) (h : a[j] ≠ b[j]) : decide (a = b) = false := by
  simp only [decide_eq_false_iff_not]
  exact fun e => h (by subst e; rfl)
theorem list_all {α : Type} {a b : List α} [DecidableEq α] (hl : a.length = b.length) (h : ∀ i (h1 : i < a.length) (h2 : i < b.length), a[i] = b[i]) : decide (a = b) = true := by
  simp only [decide_eq_true_eq]
  exact List.ext_getElem hl h
section
variable {w : World}
set_option maxHeartbeats 4000000 in
theorem equal33 {v u : Value} {a b : List (List UInt8)} (hv : ReadsR 1 w v (rowN a)) (hu : ReadsR 1 w u (rowN b)) : Calls Tryd.prog 33 #[v, u] w fun e w' => e = .returned (.bool (eqN a b)) ∧ Kept [] w w' := by
  obtain ⟨av, cv, rfl, hl1, hl2⟩ := hv.form
  obtain ⟨au, cu, rfl, hl3, hl4⟩ := hu.form
  rw [rowN_length] at hl1 hl3 hv hu ⊢
  rw [rowN_length] at ⊢
  have HV := Hid.mk hv
  have HU := Hid.mk hu
  clear hv hu
  obtain ⟨R, HR⟩ : ∃ R, Hid (eqN a b = R) := ⟨_, rfl⟩
  rw [HR.out]
  by_cases hl : a.length = b.length
  · have tl : ((a.length : Int) != (b.length : Int)) = false := by simp; omega
    have tl2 : ((a.length : Int) == (b.length : Int)) = true := by simp; omega
    have HL := Hid.mk hl
    clear hl
    generalize hn : b.length = n at *
    have HN := Hid.mk hn
    clear hn
    generalize hm : a.length = m at *
    have HM := Hid.mk hm
    clear hm
    go_enter Tryd.func33, Tryd.ntmps33
    go_wp2_with fail
    go_loopw [13] (fun i wr => ∃ j : Nat, i = .int .i64 (j : Int) ∧ j ≤ m ∧ Hid (Kept [] w wr) ∧ Hid (∀ i (h1 : i < a.length) (h2 : i < b.length), i < j → a[i] = b[i])) (fun i _ => m - (intOf i).toNat)
    case atStart => exact ⟨0, rfl, by omega, Hid.mk (Kept.refl [] w), Hid.mk (fun _ _ _ h => by omega)⟩
    case round =>
      obtain ⟨j, rfl, hj, HW, HJ⟩ := hrel
      by_cases hlt : j < m
      · have hja : j < a.length := by have := HM.out; omega
        have hjb : j < b.length := by have := HN.out; have := HL.out; omega
        have hjI : (j : Int) < (m : Int) := by omega
        have hjI2 : (j : Int) < (n : Int) := by have := HL.out; omega
        have hjN : j < n := by have := HL.out; omega
        have hj0 : (0 : Int) ≤ (j : Int) := by omega
        have HF := Hid.mk (fun h => list_at (a := a) (b := b) hja hjb h)
        have HT : Hid (a[j] = b[j] → ∀ i (h1 : i < a.length) (h2 : i < b.length), i < j + 1 → a[i] = b[i]) := fun h i h1 h2 hij => by
          by_cases e : i = j
          · subst e; exact h
          · exact HJ.out i h1 h2 (by omega)
        obtain ⟨b1, o1, rfl, hc1⟩ := names_at HV.out hja
        obtain ⟨b2, o2, rfl, hc2⟩ := names_at HU.out hjb
        have x1 : ∀ z : KW w, z.w.cell? ⟨b1, o1 + j, none⟩ = some (.string ⟨a[j].toArray⟩) := fun z => z.k.cell_eq hc1
        have x2 : ∀ z : KW w, z.w.cell? ⟨b2, o2 + j, none⟩ = some (.string ⟨b[j].toArray⟩) := fun z => z.k.cell_eq hc2
        clear hc1 hc2 HJ
        by_cases he : a[j] = b[j]
        · have HT' := Hid.mk (HT.out he)
          rw [he] at x1
          clear HT HF he
          generalize b[j] = nm at *
          go_wp2_with fail
          refine wp_region_kw (C := fun W => ∃ z : KW w, W = z.w) (by kernel_rfl) (by kernel_rfl) ⟨⟨wr.drew, HW.out.drew⟩, rfl⟩ ?_
          repeat (go_big_quiet_step (fail))
          refine wpQuiet_nil ?_
          rintro _ ⟨z, rfl⟩
          have HZ := Hid.mk z.k
          go_wp2_with fail
          go_roundw
          case rel => exact ⟨j + 1, by go_num, by omega, HZ, HT'⟩
          case measure => simp [intOf]; omega
        · obtain rfl : R = false := by rw [← HR.out]; exact HF.out he
          have t1 : (a[j] == b[j]) = false := by simpa using he
          have t2 : (a[j] != b[j]) = true := by simpa using he
          clear HT HF he HR
          generalize a[j] = na at *
          generalize b[j] = nb at *
          go_wp2_with fail
          refine wp_region_kw (C := fun W => ∃ z : KW w, W = z.w) (by kernel_rfl) (by kernel_rfl) ⟨⟨wr.drew, HW.out.drew⟩, rfl⟩ ?_
          repeat (go_big_quiet_step (fail))
          refine wpQuiet_nil ?_
          rintro _ ⟨z, rfl⟩
          have HZ := Hid.mk z.k
          go_wp2_with fail
          go_ret
          exact ⟨rfl, HZ.out⟩

      · have hjI : ¬ (j : Int) < (m : Int) := by omega
        obtain rfl : R = true := by
          rw [← HR.out]
          exact list_all (by rw [HM.out, HN.out]; exact HL.out) (fun i h1 h2 => HJ.out i h1 h2 (by have := HM.out; omega))
        clear HR HJ
        go_wp2_with fail
        go_ret
        exact ⟨rfl, HW.out⟩
  · have tl : ((a.length : Int) != (b.length : Int)) = true := by simp; omega
    have tl2 : ((a.length : Int) == (b.length : Int)) = false := by simp; omega
    obtain rfl : R = false := by rw [← HR.out]; exact list_len hl
    clear HR hl
    go_enter Tryd.func33, Tryd.ntmps33
    go_wp2_with fail
    go_ret
    exact ⟨rfl, Kept.refl [] w⟩
set_option maxHeartbeats 4000000 in
theorem equal34 {v u : Value} {a b : List In} (hv : ReadsR 2 w v (rowI a)) (hu : ReadsR 2 w u (rowI b)) : Calls Tryd.prog 34 #[v, u] w fun e w' => e = .returned (.bool (eqC a b)) ∧ Kept [] w w' := by
  obtain ⟨av, cv, rfl, hl1, hl2⟩ := hv.form
  obtain ⟨au, cu, rfl, hl3, hl4⟩ := hu.form
  rw [rowI_length] at hl1 hl3 hv hu ⊢
  rw [rowI_length] at ⊢
  have HV := Hid.mk hv
  have HU := Hid.mk hu
  clear hv hu
  obtain ⟨R, HR⟩ : ∃ R, Hid (eqC a b = R) := ⟨_, rfl⟩
  rw [HR.out]
  by_cases hl : a.length = b.length
  · have tl : ((a.length : Int) != (b.length : Int)) = false := by simp; omega
    have tl2 : ((a.length : Int) == (b.length : Int)) = true := by simp; omega
    have HL := Hid.mk hl
    clear hl
    generalize hn : b.length = n at *
    have HN := Hid.mk hn
    clear hn
    generalize hm : a.length = m at *
    have HM := Hid.mk hm
    clear hm
    go_enter Tryd.func34, Tryd.ntmps34
    go_wp2_with fail
    go_loopw [13] (fun i wr => ∃ j : Nat, i = .int .i64 (j : Int) ∧ j ≤ m ∧ Hid (Kept [] w wr) ∧ Hid (∀ i (h1 : i < a.length) (h2 : i < b.length), i < j → a[i] = b[i])) (fun i _ => m - (intOf i).toNat)
    case atStart => exact ⟨0, rfl, by omega, Hid.mk (Kept.refl [] w), Hid.mk (fun _ _ _ h => by omega)⟩
    case round =>
      obtain ⟨j, rfl, hj, HW, HJ⟩ := hrel
      by_cases hlt : j < m
      · have hja : j < a.length := by have := HM.out; omega
        have hjb : j < b.length := by have := HN.out; have := HL.out; omega
        have hjI : (j : Int) < (m : Int) := by omega
        have hjI2 : (j : Int) < (n : Int) := by have := HL.out; omega
        have hjN : j < n := by have := HL.out; omega
        have hj0 : (0 : Int) ≤ (j : Int) := by omega
        have HF := Hid.mk (fun h => list_at (a := a) (b := b) hja hjb h)
        have HT : Hid (a[j] = b[j] → ∀ i (h1 : i < a.length) (h2 : i < b.length), i < j + 1 → a[i] = b[i]) := fun h i h1 h2 hij => by
          by_cases e : i = j
          · subst e; exact h
          · exact HJ.out i h1 h2 (by omega)
        obtain ⟨b1, o1, rfl, hc1, hc2⟩ := code_at HV.out hja
        obtain ⟨b2, o2, rfl, hc3, hc4⟩ := code_at HU.out hjb
        have x1 : ∀ z : KW w, z.w.cell? ⟨b1, o1 + j * 2, none⟩ = some (.int .i64 a[j].op) := fun z => z.k.cell_eq hc1
        have x2 : ∀ z : KW w, z.w.cell? ⟨b1, o1 + j * 2 + 1, none⟩ = some (.int .i64 a[j].arg) := fun z => z.k.cell_eq hc2
        have x3 : ∀ z : KW w, z.w.cell? ⟨b2, o2 + j * 2, none⟩ = some (.int .i64 b[j].op) := fun z => z.k.cell_eq hc3
        have x4 : ∀ z : KW w, z.w.cell? ⟨b2, o2 + j * 2 + 1, none⟩ = some (.int .i64 b[j].arg) := fun z => z.k.cell_eq hc4
        clear hc1 hc2 hc3 hc4 HJ
        by_cases he : a[j] = b[j]
        · have HT' := Hid.mk (HT.out he)
          rw [he] at x1 x2
          clear HT HF he
          generalize b[j].op = q1 at *
          generalize b[j].arg = q2 at *
          go_wp2_with fail
          refine wp_region_kw (C := fun W => ∃ z : KW w, W = z.w) (by kernel_rfl) (by kernel_rfl) ⟨⟨wr.drew, HW.out.drew⟩, rfl⟩ ?_
          repeat (go_big_quiet_step (fail))
          refine wpQuiet_nil ?_
          rintro _ ⟨z, rfl⟩
          have HZ := Hid.mk z.k
          go_wp2_with fail
          go_roundw
          case rel => exact ⟨j + 1, by go_num, by omega, HZ, HT'⟩
          case measure => simp [intOf]; omega
        · obtain rfl : R = false := by rw [← HR.out]; exact HF.out he
          have hn := In.ne he
          clear HT HF he HR
          generalize a[j].op = q1 at *
          generalize a[j].arg = q2 at *
          generalize b[j].op = q3 at *
          generalize b[j].arg = q4 at *
          rcases hn with hn | ⟨rfl, hn⟩
          · have t1 : (q1 == q3) = false := by simpa using hn
            have t2 : (q1 != q3) = true := by simpa using hn
            clear hn
            go_wp2_with fail
            refine wp_region_kw (C := fun W => ∃ z : KW w, W = z.w) (by kernel_rfl) (by kernel_rfl) ⟨⟨wr.drew, HW.out.drew⟩, rfl⟩ ?_
            repeat (go_big_quiet_step (fail))
            refine wpQuiet_nil ?_
            rintro _ ⟨z, rfl⟩
            have HZ := Hid.mk z.k
            go_wp2_with fail
            go_ret
            exact ⟨rfl, HZ.out⟩
          · have t1 : (q2 == q4) = false := by simpa using hn
            have t2 : (q2 != q4) = true := by simpa using hn
            clear hn
            go_wp2_with fail
            refine wp_region_kw (C := fun W => ∃ z : KW w, W = z.w) (by kernel_rfl) (by kernel_rfl) ⟨⟨wr.drew, HW.out.drew⟩, rfl⟩ ?_
            repeat (go_big_quiet_step (fail))
            refine wpQuiet_nil ?_
            rintro _ ⟨z, rfl⟩
            have HZ := Hid.mk z.k
            go_wp2_with fail
            go_ret
            exact ⟨rfl, HZ.out⟩

      · have hjI : ¬ (j : Int) < (m : Int) := by omega
        obtain rfl : R = true := by
          rw [← HR.out]
          exact list_all (by rw [HM.out, HN.out]; exact HL.out) (fun i h1 h2 => HJ.out i h1 h2 (by have := HM.out; omega))
        clear HR HJ
        go_wp2_with fail
        go_ret
        exact ⟨rfl, HW.out⟩
  · have tl : ((a.length : Int) != (b.length : Int)) = true := by simp; omega
    have tl2 : ((a.length : Int) == (b.length : Int)) = false := by simp; omega
    obtain rfl : R = false := by rw [← HR.out]; exact list_len hl
    clear HR hl
    go_enter Tryd.func34, Tryd.ntmps34
    go_wp2_with fail
    go_ret
    exact ⟨rfl, Kept.refl [] w⟩
set_option maxHeartbeats 1000000 in
theorem same15 {v u v' u' : Value} {p q : Pg} (hP : IsP w v u p) (hQ : IsP w v' u' q) : Calls Tryd.prog 15 #[.agg #[v, u], .agg #[v', u']] w fun e w' => e = .returned (.bool (sameP p q)) ∧ Kept [] w w' := by
  obtain ⟨a, c, b, d, rfl, rfl, hl1, hl2⟩ := hP.form
  obtain ⟨a', c', b', d', rfl, rfl, -, -⟩ := hQ.form
  obtain ⟨W0, e0, k0, hz0, hb0, hb1⟩ := box2 w (.cells #[.slice a p.names.length c, .slice b p.code.length d] 33) (.cells #[.slice a' q.names.length c', .slice b' q.code.length d'] 33)
  obtain ⟨y0, y1⟩ := cells2 hb0
  obtain ⟨y2, y3⟩ := cells2 hb1
  have HC := Hid.mk (equal33 (hP.keep k0).names (hQ.keep k0).names)
  have HD : Hid (∀ W, Kept [] W0 W → _) := fun W k => equal34 (w := W) (hP.keep (k0.then k)).code (hQ.keep (k0.then k)).code
  have HB : Hid (∀ W, Kept [] W0 W → (W.cell? ⟨w.heap.size, 1, none⟩ = some (.slice b p.code.length d)) ∧ W.cell? ⟨w.heap.size + 1, 1, none⟩ = some (.slice b' q.code.length d')) := fun W k => ⟨k.cell_eq y1, k.cell_eq y3⟩
  have HK0 := Hid.mk k0
  clear k0 hb0 hb1 hz0 hP hQ
  unfold sameP
  cases hn : eqN p.names q.names with
  | true =>
    rw [hn] at HC
    clear hn
    rw [Bool.true_and]
    generalize eqC p.code q.code = R at *
    go_enter Tryd.func15, Tryd.ntmps15
    go_wp2_with fail
    refine HC.out.mono ?_
    rintro e w1 ⟨rfl, k1⟩
    obtain ⟨x1, x3⟩ := HB.out w1 k1
    have HD1 := Hid.mk (HD.out w1 k1)
    have HK1 := Hid.mk k1
    clear k1 y0 y1 y2 y3
    go_wp2_with fail
    refine HD1.out.mono ?_
    rintro e w2 ⟨rfl, k2⟩
    go_wp2_with fail
    go_ret
    exact ⟨rfl, (HK0.out.then HK1.out).then k2⟩
  | false =>
    rw [hn] at HC
    clear hn
    rw [Bool.false_and]
    go_enter Tryd.func15, Tryd.ntmps15
    go_wp2_with fail
    refine HC.out.mono ?_
    rintro e w1 ⟨rfl, k1⟩
    go_wp2_with fail
    go_ret
    exact ⟨rfl, HK0.out.then k1⟩
end
end Go.Proofs.YtibapmjgpnldgaaDoor
