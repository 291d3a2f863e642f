/-
  JournalState: the registers are what was set last.
-/
import Derived.Test.YtbmpoboenhdnoaaOn
import Derived.Test.YtbmpoboenhdnoaaEi
namespace Go.Proofs.Ytbmpoboenhdnoaa
set_option maxRecDepth 100000
open Go.RowKit
set_option linter.unusedVariables false
/-- A journal of the program's, and an array of eight beside it, both new since w0. -/
structure Sti (w0 w : World) (p g : Nat) (j : Jn) (A : List Int) : Prop where
  one : One w0 w p j
  isA : IsA w g A
  hg : w0.heap.size ≤ g
section
variable {w0 w w' : World} {p g : Nat} {j : Jn} {A : List Int}
theorem Sti.ne (T : Sti w0 w p g j A) : g ≠ p := box_ne T.isA.box T.one.isJ.isP.box (by decide)
theorem Sti.kept0 (T : Sti w0 w p g j A) (k : Kept [] w w') : Sti w0 w' p g j A := ⟨T.one.kept0 k, T.isA.kept0 k, T.hg⟩
theorem Sti.go (T : Sti w0 w p g j A) {j' : Jn} (h : IsJ w' p j') (gd : GoodJ j') (k : Kept [p] w w') : Sti w0 w' p g j' A := ⟨T.one.go h gd k, ⟨k.keeps T.isA.box (by simpa using T.ne), T.isA.a8⟩, T.hg⟩
theorem Sti.set (T : Sti w0 w p g j A) {i : Nat} (hi : i < 8) (x : Int) : Sti w0 (w.setCell ⟨g, i, none⟩ (Iv x)) p g j (A.set i x) := by
  have k : Kept [g] w (w.setCell ⟨g, i, none⟩ (Iv x)) := (Kept.refl [g] w).setCell (p := ⟨g, i, none⟩) (.inl (by simp)) _
  exact ⟨⟨T.one.isJ.kept k (by simpa using T.ne.symm), T.one.hp, T.one.good, T.one.kept.trans k (by simp; exact T.hg)⟩, T.isA.set hi x, T.hg⟩
theorem sti_add (T : Sti w0 w p g j A) {v : Value} {l : List Ep} (hO : OwnsR 34 2 w v (CE l)) (h6 : ∀ e ∈ l, E64 e) (hl : l.length ≤ 1000000) (hv : j.ver + l.length < 18446744073709551616) : Calls Try.prog 12 #[.pointer (some ⟨p, 0, none⟩), v] w fun e w' => e = .returned (Iv (addC l)) ∧ Sti w0 w' p g (addR j l) A ∧ Kept [p] w w' := by
  refine (add12 T.one.isJ T.one.good.reg (T.one.isJ.rowKept hO) hl hv).mono ?_
  rintro e w1 ⟨rfl, h, k⟩
  exact ⟨rfl, T.go h (T.one.good.addR h6 hv) k, k⟩
theorem sti_fold (T : Sti w0 w p g j A) : Calls Try.prog 16 #[.pointer (some ⟨p, 0, none⟩)] w fun e w' => e = .returned (Iv (j.ev.length : Int)) ∧ Sti w0 w' p g (foldJ j) A ∧ Kept [p] w w' := by
  refine (fold16 T.one.isJ T.one.good.reg).mono ?_
  rintro e w1 ⟨rfl, h, k⟩
  exact ⟨rfl, T.go h T.one.good.fold k, k⟩
end
/-- The register that an integer names. -/
def regOf (x : Int) : Nat := (x % 8).toNat
theorem regOf_lt (x : Int) : regOf x < 8 := by unfold regOf; omega
theorem regOf_eq (x : Int) : (IntKind.u64.wrap x).tmod 8 = (regOf x : Int) := by
  rw [IntKind.wrap_u64, Int.tmod_eq_emod_of_nonneg (by omega)]
  unfold regOf
  omega
theorem one_reg {j : Jn} {R : Nat} (hR : R < 8) (x : Int) : addC [((R : Int), x)] = 0 ∧ addR j [((R : Int), x)] = addE j ⟨R, x⟩ := by
  have hb : badE ((R : Int), x) = false := by
    simp [badE]
    omega
  have ha : [((R : Int), x)].any badE = false := by simp [hb]
  unfold addC addR
  rw [if_neg (by rw [ha]; simp), if_neg (by rw [ha]; simp)]
  exact ⟨rfl, rfl⟩
section
variable {w : World}
set_option maxHeartbeats 4000000 in
theorem state_walk {v : Value} {l : List Ep} (hI : EvsIn w v l) (wg : Int) (fo : Nat) (hw : I64 wg) (hf : fo < 18446744073709551616) : Calls Try.prog 4 #[v, Iv wg, Uv fo] w fun e w' => e = .returned (.bool true) ∧ Kept [] w w' := by
  obtain ⟨a, c, rfl, hc1, hc2⟩ := rowE_form hI.1
  have HI := Hid.mk hI
  clear hI
  go_enter Try.func4, Try.ntmps4
  go_wp2_with fail
  refine (awake9 (w := w)).mono ?_
  rintro e w1 ⟨rfl, k1⟩
  have HK1 := Hid.mk k1
  clear k1
  by_cases h3 : 300 < l.length
  · have h3I : (300 : Int) < (l.length : Int) := by omega
    go_wp2_with fail
    refine (awake9 (w := w1)).mono ?_
    rintro e w2 ⟨rfl, k2⟩
    go_wp2_with fail
    go_ret
    exact ⟨rfl, HK1.out.trans k2 (by simp)⟩
  · have h3I : ¬ (300 : Int) < (l.length : Int) := by omega
    generalize hn : l.length = n at *
    have HN := Hid.mk hn
    clear hn
    go_wp2_with fail
    refine (one_new (w0 := w) HK1.out).mono ?_
    rintro e w2 ⟨p, rfl, T2⟩
    have hal := alloc29 w2
    have HT2 : Hid (Sti w (w2.alloc (.cells (BI z8).toArray 29)) p w2.heap.size newJ z8) := ⟨T2.kept0 ((Kept.refl [] w2).alloc _), IsA.new w2, T2.kept.size⟩
    clear T2
    generalize w2.alloc (.cells (BI z8).toArray 29) = W2 at *
    generalize w2.heap.size = g at *
    go_wp2_with (first | (refine wpList_alloc_run 29 rfl rfl _ _ hal ?_))
    clear hal
    go_loopw [24, 9] (fun i m wr => ∃ k : Nat, i = .int .i64 (k : Int) ∧ k ≤ n ∧ ∃ j : Jn, m = .int .u64 (k : Int) ∧ j.ver = k ∧ Hid (Sti w wr p g j (stJ j))) (fun i _ _ => n - (intOf i).toNat)
    case atStart => exact ⟨0, rfl, by omega, newJ, rfl, rfl, HT2⟩
    case round =>
      obtain ⟨k, rfl, hk, j, rfl, hjv, H⟩ := hrel
      by_cases hlt : k < n
      · obtain ⟨y, hy⟩ : ∃ y, l[k]? = some y := ⟨_, List.getElem?_eq_getElem (by have := HN.out; omega)⟩
        obtain ⟨b, o, rfl, d0, d1⟩ := rowE_at (ReadsR.kept HI.out.1 H.out.one.kept (by simp)) hy
        have hjI : (k : Int) < (n : Int) := by omega
        have q1 := regOf_eq y.1
        have hR8 := regOf_lt y.1
        generalize regOf y.1 = R at *
        have q2 : wrap64 (R : Int) = (R : Int) := by unfold wrap64; omega
        have HE6 : Hid (E64 ((R : Int), y.2)) := ⟨by unfold I64; omega, (HI.out.2 y (List.mem_of_getElem? hy)).2⟩
        obtain ⟨y1, y2⟩ := y
        dsimp only at *
        have kA := (Kept.refl [] wr).alloc (.cells #[.int .i64 (R : Int), .int .i64 y2] 47)
        have hb0 := heap_alloc_new wr (.cells #[.int .i64 (R : Int), .int .i64 y2] 47)
        have hzA : (wr.alloc (.cells #[.int .i64 (R : Int), .int .i64 y2] 47)).heap.size = wr.heap.size + 1 := by simp
        have hO := row1 (wr.alloc (.cells #[.int .i64 (R : Int), .int .i64 y2] 47)) ((R : Int), y2)
        dsimp only at hO
        rw [hzA] at hO
        have kB := (Kept.refl [] (wr.alloc (.cells #[.int .i64 (R : Int), .int .i64 y2] 47))).alloc (.cells #[.int .i64 (R : Int), .int .i64 y2] 34)
        have HT3 := Hid.mk ((H.out.kept0 kA).kept0 kB)
        have HA := Hid.mk (sti_add HT3.out hO (by simpa using HE6.out) (by simp) (by rw [hjv]; simp; omega))
        obtain ⟨e1, e2⟩ := one_reg (j := j) hR8 y2
        rw [e1, e2] at HA
        have HB0 : Hid (∀ W, Kept [p] ((wr.alloc (.cells #[.int .i64 (R : Int), .int .i64 y2] 47)).alloc (.cells #[.int .i64 (R : Int), .int .i64 y2] 34)) W → W.heap[wr.heap.size]? = some (.cells #[.int .i64 (R : Int), .int .i64 y2] 47 (0, 0))) := fun W k => k.keeps (kB.keeps hb0 (by simp)) (by have := H.out.one.isJ.lt; simp; omega)
        clear hb0 hzA hO kA kB e1 e2 HE6 hy H
        go_wp2_with fail
        refine HA.out.mono ?_
        rintro e w3 ⟨rfl, t3, k3⟩
        have HT4 := Hid.mk t3
        have hb3 := HB0.out _ k3
        obtain ⟨c0, c1⟩ := cells2 hb3
        obtain ⟨x0, hx0⟩ : ∃ x, (stJ j)[R]? = some x := ⟨_, List.getElem?_eq_getElem (by rw [t3.isA.a8]; exact hR8)⟩
        have g0 := t3.isA.cell hx0
        have g1 := t3.isA.free R
        have r0 : (0 : Int) ≤ (R : Int) := by omega
        have r1 : (R : Int) < 8 := by omega
        have HT5 := Hid.mk (t3.set (i := R) hR8 y2)
        have e5 : (stJ j).set R y2 = stJ (addE j ⟨R, y2⟩) := (st_add j ⟨R, y2⟩).symm
        rw [e5] at HT5
        have hv5 := ver_add j ⟨R, y2⟩
        rw [hjv] at hv5
        generalize addE j ⟨R, y2⟩ = J at *
        clear HA HT3 HB0 t3 k3 hb3 hx0 e5 d0 d1 HT4 hjv
        clear j
        have f0 : (0 : Int) ≤ (k : Int) := by omega
        have hk1 : IntKind.u64.wrap ((k : Int) + 1) = (k : Int) + 1 := by rw [IntKind.wrap_u64]; omega
        go_wp2_with fail
        rotate_left
        have HT6 := HT5
        have hv6 := hv5
        clear HT5 hv5 g0 g1 c0 c1
        generalize w3.setCell ⟨g, R, none⟩ (.int .i64 y2) = w4 at HT6 ⊢
        generalize J = J6 at HT6 hv6
        rotate_left
        refine (sti_fold HT5.out).mono ?_
        rintro e w4 ⟨rfl, t4, -⟩
        have HT6 : Hid (Sti w w4 p g (foldJ J) (stJ (foldJ J))) := t4
        have hv6 : (foldJ J).ver = k + 1 := hv5
        generalize foldJ J = J6 at HT6 hv6
        clear t4 HT5 hv5 g0 g1 c0 c1
        go_wp2_with fail
        all_goals
          have HD : Hid (∀ W, Kept [] w4 W → Sti w W p g J6 (stJ J6)) := fun W kk => HT6.out.kept0 kk
          obtain ⟨a0, a1, a2, a3, a4, a5, a6, a7, hA⟩ := eight HT6.out.isA.a8
          have HX : Hid (∀ W, Kept [] w4 W → Cells8 W g a0 a1 a2 a3 a4 a5 a6 a7) := fun W kk => cells8 hA fun i x hx => (HD.out W kk).isA.cell hx
          have HC : Hid (Calls Try.prog 18 #[.pointer (some ⟨p, 0, none⟩)] w4.drew fun e w' => e = .returned (.agg #[Iv a0, Iv a1, Iv a2, Iv a3, Iv a4, Iv a5, Iv a6, Iv a7]) ∧ Kept [] w4.drew w') := (one_state (HD.out _ (Kept.refl [] w4).drew).one).mono fun e w' h => ⟨by rw [h.1, hA]; rfl, h.2.2⟩
          have HV : Hid (∀ W, Kept [] w4 W → Calls Try.prog 19 #[.pointer (some ⟨p, 0, none⟩)] W fun e w' => e = .returned (.int .u64 ((k : Int) + 1)) ∧ W = w') := fun W kk => by
            have := one_version (HD.out W kk).one
            rw [hv6] at this
            exact this
          have S0 := HX.out _ (Kept.refl [] w4).drew
          have heq := equal29 a0 a1 a2 a3 a4 a5 a6 a7
          have HL : Hid ((J6.ev.map ofE).length ≤ 16) := Hid.mk (by rw [List.length_map]; exact HT6.out.one.isJ.len)
          clear hA
          go_region_held3 (fun V => V.cell? ⟨g, 0, none⟩ = some (Iv a0) ∧ V.cell? ⟨g, 1, none⟩ = some (Iv a1) ∧ V.cell? ⟨g, 2, none⟩ = some (Iv a2) ∧ V.cell? ⟨g, 3, none⟩ = some (Iv a3) ∧ V.cell? ⟨g, 4, none⟩ = some (Iv a4) ∧ V.cell? ⟨g, 5, none⟩ = some (Iv a5) ∧ V.cell? ⟨g, 6, none⟩ = some (Iv a6) ∧ V.cell? ⟨g, 7, none⟩ = some (Iv a7)) (first | exact S0 | exact S1 | exact S2) (first | (go_at_call 20; refine (one_events (HD.out _ K1.out).one).mono ?_; rintro e w6 ⟨v6, rfl, ho6, -, -, k6⟩; obtain ⟨q6, c6, rfl, -⟩ := ho6.form; rw [CE_length]; have h16 : ¬ (16 : Int) < ((J6.ev.map ofE).length : Int) := (by have := HL.out; omega); generalize (J6.ev.map ofE).length = m6 at h16 ⊢; have K2 := Hid.mk (K1.out.trans k6 (by simp)); have S2 := HX.out _ K2.out) | (go_at_call 19; refine (HV.out _ K1.out).mono ?_; rintro e w5' ⟨rfl, rfl⟩) | (go_at_call 18; refine HC.out.mono ?_; rintro e w5 ⟨rfl, k5⟩; have K1 := Hid.mk ((Kept.refl [] w4).drew.trans k5 (by simp)); have S1 := HX.out _ K1.out))
          clear S0 S1 S2 HX HC HV heq HL
          go_wp2_with fail
          go_roundw
          case rel => exact ⟨k + 1, by go_num, by omega, J6, by go_num, hv6, Hid.mk (HD.out _ K2.out)⟩
          case measure => simp [intOf]; omega
      · obtain rfl : k = n := by omega
        by_cases hin : 0 ≤ wg ∧ wg ≤ 7
        · obtain ⟨i0, i7⟩ := hin
          go_wp2_with fail
          go_ret
          exact ⟨rfl, H.out.one.kept⟩
        · have hbad : [((1 : Int), (99 : Int)), (wg, 5)].any badE = true := by
            simp [badE]
            omega
          have hi0 : 0 ≤ wg → ¬ wg ≤ 7 := fun h h7 => hin ⟨h, h7⟩
          have hO : OwnsR 34 2 (wr.alloc (.cells #[Iv 1, Iv 99, Iv wg, Iv 5] 34)) (.slice (some ⟨wr.heap.size, 0, none⟩) 2 2) (CE [(1, 99), (wg, 5)]) := ownsR_block (rs := CE [(1, 99), (wg, 5)]) (heap_alloc_new wr _) (CE_wide _) rfl (by decide)
          have HA := Hid.mk (sti_add (H.out.kept0 ((Kept.refl [] wr).alloc (.cells #[Iv 1, Iv 99, Iv wg, Iv 5] 34))) hO (by
            intro e he
            simp at he
            rcases he with rfl | rfl
            · exact ⟨by unfold I64; omega, by unfold I64; omega⟩
            · exact ⟨hw, by unfold I64; omega⟩) (by simp) (by rw [hjv]; simp; omega))
          have e1 : addC [(1, 99), (wg, 5)] = 3 := by unfold addC; rw [if_pos hbad]
          have e2 : addR j [(1, 99), (wg, 5)] = j := by unfold addR; rw [if_pos hbad]
          rw [e1, e2] at HA
          clear hO e1 e2 hbad H hin
          by_cases h0 : 0 ≤ wg
          rotate_left
          go_wp2_with fail
          rotate_left
          have h7 := hi0 h0
          go_wp2_with fail
          all_goals
            refine HA.out.mono ?_
            rintro e w4 ⟨rfl, t4, -⟩
            have HD : Hid (∀ W, Kept [] w4 W → Sti w W p g j (stJ j)) := fun W kk => t4.kept0 kk
            obtain ⟨a0, a1, a2, a3, a4, a5, a6, a7, hA⟩ := eight t4.isA.a8
            have HX : Hid (∀ W, Kept [] w4 W → Cells8 W g a0 a1 a2 a3 a4 a5 a6 a7) := fun W kk => cells8 hA fun i x hx => (HD.out W kk).isA.cell hx
            have HC : Hid (Calls Try.prog 18 #[.pointer (some ⟨p, 0, none⟩)] w4.drew fun e w' => e = .returned (.agg #[Iv a0, Iv a1, Iv a2, Iv a3, Iv a4, Iv a5, Iv a6, Iv a7]) ∧ Kept [] w4.drew w') := (one_state (HD.out _ (Kept.refl [] w4).drew).one).mono fun e w' h => ⟨by rw [h.1, hA]; rfl, h.2.2⟩
            have HV : Hid (∀ W, Kept [] w4 W → Calls Try.prog 19 #[.pointer (some ⟨p, 0, none⟩)] W fun e w' => e = .returned (.int .u64 (k : Int)) ∧ W = w') := fun W kk => by
              have := one_version (HD.out W kk).one
              rw [hjv] at this
              exact this
            have S0 := HX.out _ (Kept.refl [] w4).drew
            have heq := equal29 a0 a1 a2 a3 a4 a5 a6 a7
            clear hA t4 HA
            go_wp2_with fail
            go_region_held3 (fun V => V.cell? ⟨g, 0, none⟩ = some (Iv a0) ∧ V.cell? ⟨g, 1, none⟩ = some (Iv a1) ∧ V.cell? ⟨g, 2, none⟩ = some (Iv a2) ∧ V.cell? ⟨g, 3, none⟩ = some (Iv a3) ∧ V.cell? ⟨g, 4, none⟩ = some (Iv a4) ∧ V.cell? ⟨g, 5, none⟩ = some (Iv a5) ∧ V.cell? ⟨g, 6, none⟩ = some (Iv a6) ∧ V.cell? ⟨g, 7, none⟩ = some (Iv a7)) (first | exact S0 | exact S1) (first | (go_at_call 19; refine (HV.out _ K1.out).mono ?_; rintro e w5' ⟨rfl, rfl⟩) | (go_at_call 18; refine HC.out.mono ?_; rintro e w5 ⟨rfl, k5⟩; have K1 := Hid.mk ((Kept.refl [] w4).drew.trans k5 (by simp)); have S1 := HX.out _ K1.out))
            clear S0 S1 HX HC HV heq
            go_wp2_with fail
            go_ret
            exact ⟨rfl, (HD.out _ K1.out).one.kept⟩
end
end Go.Proofs.Ytbmpoboenhdnoaa
