import Derived.Test.YtibapmjgpnldgaaGreatDoorQ41
/-
  CodeTurned: the walk.
-/
namespace Go.Proofs.YtibapmjgpnldgaaGreatDoor
open Go.RowKit
set_option maxRecDepth 100000
set_option linter.unusedVariables false
section
variable {w : World}
set_option maxHeartbeats 8000000 in
theorem turned_walk {v : Value} {p : Pg} (hP : PgIn w v p) (hG : Glob w) (i1 : Int) (by_ : UInt8) (i2 : Int) : Calls Tryz.prog 3 #[v, .int .i64 i1, .int .u8 (by_.toNat : Int), .int .i64 i2] w fun e w' => e = .returned (.bool true) ∧ Kept [] w w' := by
  obtain ⟨⟨v1, u1, rfl, hI⟩, hK, hC⟩ := hP
  have hO : OkP p := fun x hx => (hC x hx).2
  obtain ⟨av, cv, bv, dv, rfl, rfl, -, -⟩ := hI.form
  obtain ⟨W0, e0, k0, hz0, hb0⟩ := box1 w (.cells #[.slice av p.names.length cv, .slice bv p.code.length dv] 25)
  have HAw : Hid (∀ W, Kept [] W0 W → Calls Tryz.prog 4 #[] W fun e w' => e = .returned (.bool true) ∧ Kept [] W w') := fun W k => awake8 (hG.kept (k0.then k))
  have HFw : Hid (∀ W, Kept [] W0 W → Calls Tryz.prog 5 #[.agg #[.slice av p.names.length cv, .slice bv p.code.length dv]] W fun e w' => FewAt p e ∧ Kept [] W w') := fun W k => few9 (hI.keep (k0.then k)) hK
  have HTh : Hid (∀ W, Kept [] W0 W → p.names.length ≤ 1000 → p.code.length ≤ 1000 → Calls Tryz.prog 7 #[.agg #[.slice av p.names.length cv, .slice bv p.code.length dv]] W fun e w' => ∃ v' u', e = .returned (.agg #[v', u']) ∧ IsP w' v' u' p ∧ Kept [] W w') := fun W k h1 h2 => theirs11 (hI.keep (k0.then k)) h1 h2
  have HPr : Hid (∀ (v' u' : Value) W, Kept [] W0 W → IsP W v' u' p → Calls Tryz.prog 6 #[.agg #[v', u']] W fun e w' => e = printE p ∧ Kept [] W w') := fun v' u' W k h => print10 h (hG.kept (k0.then k)) hK hO
  have HEn : Hid (∀ (v' u' : Value) W, Kept [] W0 W → IsP W v' u' p → Calls Tryz.prog 8 #[.agg #[v', u']] W fun e w' => EncAt W p e w') := fun v' u' W k h => encode20 h (hG.kept (k0.then k)) hK hO
  have HPs : Hid (∀ (s : List UInt8) W, Kept [] W0 W → s.length ≤ 9223372036854775807 → Calls Tryz.prog 9 #[.string ⟨s.toArray⟩] W fun e w' => e = .returned (.bool true) ∧ Kept [] W w') := fun s W k h => parses_walk (hG.kept (k0.then k)) s h
  have HEs : Hid (∀ (vb : Value) (l : List UInt8) W, Kept [] W0 W → Reads W vb l → l.length ≤ 140737488351232 → Inside W vb → Calls Tryz.prog 10 #[.agg #[.slice av p.names.length cv, .slice bv p.code.length dv], vb] W fun e w' => e = .returned (.bool true) ∧ Kept [] W w') := fun vb l W k h1 h2 h3 => encodes_walk ⟨⟨_, _, rfl, hI.keep (k0.then k)⟩, hK, hC⟩ (hG.kept (k0.then k)) h1 h2 h3
  obtain ⟨y0, y1⟩ := cells2 hb0
  have HB0 := Hid.mk hb0
  have HK0 := Hid.mk k0
  have HO := Hid.mk hO
  clear k0 hb0 hz0 hI hK hC hG hO
  go_enter Tryz.func3, Tryz.ntmps3
  go_wp2_with fail
  refine (HAw.out W0 (Kept.refl [] W0)).mono ?_
  rintro e w1 ⟨rfl, k1⟩
  have HK1 := Hid.mk k1
  obtain ⟨y2, y3⟩ := cells2 (k1.keeps HB0.out (by simp))
  clear k1 y0 y1
  go_wp2_with fail
  refine (HFw.out w1 HK1.out).mono ?_
  rintro e w2 ⟨hf, k2⟩
  have HK2 := Hid.mk (HK1.out.then k2)
  obtain ⟨y0, y1⟩ := cells2 (k2.keeps (HK1.out.keeps HB0.out (by simp)) (by simp))
  clear k2 y2 y3
  rcases hf with ⟨rfl, q1, q2, q3⟩ | rfl
  · go_wp2_with fail
    refine (HTh.out w2 HK2.out (by omega) (by omega)).mono ?_
    rintro e w3 ⟨v', u', rfl, hI', k3⟩
    have HK3 := Hid.mk (HK2.out.then k3)
    have HI' := Hid.mk hI'
    clear k3 hI' y0 y1
    go_wp2_with fail
    refine (HPr.out v' u' w3 HK3.out HI'.out).mono ?_
    rintro e w4 ⟨he, k4⟩
    have HK4 := Hid.mk (HK3.out.then k4)
    obtain ⟨y0, y1⟩ := cells2 (HK4.out.keeps HB0.out (by simp))
    clear k4 HI'
    unfold printE at he
    cases hf : formedP p with
    | false =>
      rw [hf, if_neg (by simp)] at he
      subst he
      have HFm := Hid.mk hf
      clear hf
      go_wp2_with fail
      refine (HTh.out w4 HK4.out (by omega) (by omega)).mono ?_
      rintro e w7 ⟨v7, u7, rfl, hI7, k7⟩
      have HK7 := Hid.mk (HK4.out.then k7)
      have HI7 := Hid.mk hI7
      clear k7 hI7 y0 y1
      go_wp2_with fail
      refine (HEn.out v7 u7 w7 HK7.out HI7.out).mono ?_
      rintro e w8 hE
      obtain ⟨rfl, k8⟩ : e = .returned (.tuple #[.slice none 0 0, .int .i64 1]) ∧ Kept [] w7 w8 := by
        rcases hE with ⟨h, h2⟩ | ⟨h, -⟩
        · exact h2
        · rw [HFm.out] at h; cases h
      clear hE
      go_wp2_with fail
      go_ret
      exact ⟨rfl, (HK0.out.then HK7.out).then k8⟩
    | true =>
      rw [hf, if_pos rfl] at he
      subst he
      have hpl := printP_len hf HO.out
      have hel := encPg_length hf
      have hz5 : (⟨(printP p).toArray⟩ : ByteArray).size = (printP p).length := by simp [ByteArray.size]
      have HFm := Hid.mk hf
      clear hf
      generalize printP p = tx at *
      go_wp2_with fail
      refine (HTh.out w4 HK4.out (by omega) (by omega)).mono ?_
      rintro e w7 ⟨v7, u7, rfl, hI7, k7⟩
      have HK7 := Hid.mk (HK4.out.then k7)
      have HI7 := Hid.mk hI7
      clear k7 hI7 y0 y1
      go_wp2_with fail
      refine (HEn.out v7 u7 w7 HK7.out HI7.out).mono ?_
      rintro e w8 hE
      obtain ⟨v8, rfl, hO8, k8, hf8⟩ : ∃ v, e = .returned (.tuple #[v, .int .i64 0]) ∧ Owns 5 w8 v (encPg p) ∧ Kept [] w7 w8 ∧ Fresh w7 v := by
        rcases hE with ⟨h, -⟩ | ⟨h, h2⟩
        · rw [HFm.out] at h; cases h
        · exact h2
      have HK8 := Hid.mk (HK7.out.then k8)
      clear hE
      generalize encPg p = B at *
      obtain ⟨g, cap, rfl, hc1, hc2, -⟩ := hO8.some (by omega)
      have HOb := Hid.mk hO8
      have hgw : W0.heap.size ≤ g := by have := hf8 g rfl; have := HK7.out.size; omega
      obtain ⟨N, hN⟩ : ∃ N, Hid (B.length = N) := ⟨_, rfl⟩
      rw [hN.out] at hc1 hel HOb ⊢
      obtain ⟨j1, hj1, ej1, fj1⟩ := idx_of i1 N (by omega) (by omega)
      obtain ⟨j2, hj2, ej2, fj2⟩ := idx_of i2 N (by omega) (by omega)
      have hn0 : ((N : Int) == 0) = false := by simp; omega
      have hnw : IntKind.u64.wrap (N : Int) = (N : Int) := by rw [IntKind.wrap_u64]; omega
      have hj2I : (j2 : Int) ≤ (N : Int) := by omega
      have hj2c : (j2 : Int) ≤ (cap : Int) := by omega
      have hj20 : (0 : Int) ≤ (j2 : Int) := by omega
      have hj1I : (j1 : Int) < (N : Int) := by omega
      have hj10 : (0 : Int) ≤ (j1 : Int) := by omega
      have Y0 := Hid.mk (cells2 HB0.out).1
      have Y1 := Hid.mk (cells2 HB0.out).2
      clear k8 hO8 hf8 HI7 HFm
      have TAIL : Hid (∀ W, Kept [] w8 W → Kept [] W0 W ∧ Owns 5 W (.slice (some ⟨g, 0, none⟩) N cap) B) := fun W k => ⟨HK8.out.then k, HOb.out.kept k (by simp)⟩
      by_cases hl : 0 < tx.length
      · have hlI : (0 : Int) < (tx.length : Int) := by omega
        have hmx : (20000 : Nat) ≤ maxLen := by decide
        obtain ⟨cap2, w9, hcv, hR9, k9, hlt9, hcc1, hcc2, hcells⟩ := bytes_of w8 tx (by omega)
        obtain ⟨i3, hi3, ei3, fi3⟩ := idx_of i1 tx.length hl (by omega)
        obtain ⟨i4, hi4, ei4, fi4⟩ := idx_of i2 (tx.length + 1) (by omega) (by omega)
        obtain ⟨uc, cu, fu⟩ := hcells i3 hi3
        have hn1 : ((tx.length : Int) == 0) = false := by simp only [beq_eq_false_iff_ne, ne_eq]; omega
        have hn2 : ((tx.length : Int) + 1 == 0) = false := by simp only [beq_eq_false_iff_ne, ne_eq]; omega
        have hi3I : (i3 : Int) < (tx.length : Int) := by omega
        have hi4I : (i4 : Int) ≤ (tx.length : Int) := by omega
        have hi4N : i4 ≤ tx.length := by omega
        have ei4' : wrap64 ((IntKind.u64.wrap i2).tmod ((tx.length : Int) + 1)) = (i4 : Int) := ei4
        have hS := string_of (P := Tryz.prog) 35 5 Tryz.underlying35 9 Tryz.underlying5 Tryz.underlying9 _ _ _ (reads_set (k := i3) hR9 by_)
        have hcut : (⟨tx.toArray⟩ : ByteArray).extract 0 i4 = ⟨(tx.take i4).toArray⟩ := by rw [cut_mid]; simp
        have HK10' : Hid (Kept [] w8 (w9.setCell ⟨w8.heap.size, i3, none⟩ (.int .u8 (by_.toNat : Int)))) := k9.setCell (.inr (Nat.le_refl _)) _
        have hlen3 : (tx.set i3 by_).length ≤ 10000 := by rw [List.length_set]; omega
        have hlen4 : (tx.take i4).length ≤ 10000 := by rw [List.length_take]; omega
        clear hcells hR9 k9 fi3 fi4
        generalize tx.set i3 by_ = tx3 at *
        generalize tx.take i4 = tx4 at *
        go_wp2_with fail
        refine (HPs.out tx3 _ (HK8.out.then HK10'.out) (by omega)).mono ?_
        rintro e w11 ⟨rfl, k11⟩
        have HK11 := Hid.mk (HK10'.out.then k11)
        clear k11 hS cu fu hcv HK10'
        go_wp2_with fail
        refine (HPs.out tx4 w11 (HK8.out.then HK11.out) (by omega)).mono ?_
        rintro e w12 ⟨rfl, k12⟩
        have HK12 := Hid.mk (HK11.out.then k12)
        clear k12 HK11
        obtain ⟨HKt, hOt⟩ := TAIL.out w12 HK12.out
        have HKT := Hid.mk HKt
        obtain ⟨ub, cub, fub⟩ := hOt.cell_at hN.out.symm hj1
        have hgl : g < w12.heap.size := hOt.lt rfl
        have hR13 := reads_set (k := j1) hOt.reads by_
        have HK13 : Hid (Kept [] W0 (w12.setCell ⟨g, j1, none⟩ (.int .u8 (by_.toNat : Int)))) := HKT.out.setCell (.inr hgw) _
        have HR13 := Hid.mk hR13
        have hlenB : (B.set j1 by_).length = N := by rw [List.length_set]; exact hN.out
        have HIn : Hid (∀ z : World, Kept [] (w12.setCell ⟨g, j1, none⟩ (.int .u8 (by_.toNat : Int))) z → ∀ n c, Inside z (.slice (some ⟨g, 0, none⟩) n c)) := fun z k n c u hu => by
          simp [Value.ownBlock] at hu
          subst hu
          have := k.size
          simp at this
          omega
        have HLB := Hid.mk hlenB
        clear HKt hOt hR13 hlenB
        generalize B.set j1 by_ = B2 at *
        generalize hW13 : w12.setCell ⟨g, j1, none⟩ (.int .u8 (by_.toNat : Int)) = W13 at *
        have z0 : ∀ z : KW W13, z.w.cell? ⟨w.heap.size, 0, none⟩ = some (.slice av p.names.length cv) := fun z => ((HK13.out.then z.k).cell_eq Y0.out)
        have z1 : ∀ z : KW W13, z.w.cell? ⟨w.heap.size, 1, none⟩ = some (.slice bv p.code.length dv) := fun z => ((HK13.out.then z.k).cell_eq Y1.out)
        have HC1 : Hid (∀ z : KW W13, Calls Tryz.prog 10 #[.agg #[.slice av p.names.length cv, .slice bv p.code.length dv], .slice (some ⟨g, 0, none⟩) N cap] z.w fun e w' => e = .returned (.bool true) ∧ Kept [] z.w w') := fun z => HEs.out _ B2 z.w (HK13.out.then z.k) (HR13.out.kept z.k (by simp)) (by have := HLB.out; omega) (HIn.out z.w z.k _ _)
        have HC2 : Hid (∀ z : KW W13, Calls Tryz.prog 10 #[.agg #[.slice av p.names.length cv, .slice bv p.code.length dv], .slice (some ⟨g, 0, none⟩) j2 cap] z.w fun e w' => e = .returned (.bool true) ∧ Kept [] z.w w') := fun z => HEs.out _ (B2.take j2) z.w (HK13.out.then z.k) (reads_take (HR13.out.kept z.k (by simp)) (by omega)) (by rw [List.length_take]; have := HLB.out; omega) (HIn.out z.w z.k _ _)
        clear HR13 HLB HIn
        go_wp2_with fail
        refine wp_region_kw (C := fun W => ∃ z : KW W13, W = z.w) (by kernel_rfl) (by kernel_rfl) ⟨⟨W13.drew, (Kept.refl [] W13).drew⟩, rfl⟩ ?_
        repeat (go_big_quiet_step (first | (go_at_call 10; with_reducible exact calls_kw (HC1.out _)) | (go_at_call 10; with_reducible exact calls_kw (HC2.out _)) | fail))
        refine wpQuiet_nil ?_
        rintro _ ⟨z, rfl⟩
        have HZ := Hid.mk ((HK0.out.then HK13.out).then z.k)
        go_wp2_with fail
        go_ret
        exact ⟨rfl, HZ.out⟩
      · have hlI : ¬ (0 : Int) < (tx.length : Int) := by omega
        obtain ⟨HKt, hOt⟩ := TAIL.out w8 (Kept.refl [] w8)
        have HKT := Hid.mk HKt
        obtain ⟨ub, cub, fub⟩ := hOt.cell_at hN.out.symm hj1
        have hgl : g < w8.heap.size := hOt.lt rfl
        have hR13 := reads_set (k := j1) hOt.reads by_
        have HK13 : Hid (Kept [] W0 (w8.setCell ⟨g, j1, none⟩ (.int .u8 (by_.toNat : Int)))) := HKT.out.setCell (.inr hgw) _
        have HR13 := Hid.mk hR13
        have hlenB : (B.set j1 by_).length = N := by rw [List.length_set]; exact hN.out
        have HIn : Hid (∀ z : World, Kept [] (w8.setCell ⟨g, j1, none⟩ (.int .u8 (by_.toNat : Int))) z → ∀ n c, Inside z (.slice (some ⟨g, 0, none⟩) n c)) := fun z k n c u hu => by
          simp [Value.ownBlock] at hu
          subst hu
          have := k.size
          simp at this
          omega
        have HLB := Hid.mk hlenB
        clear HKt hOt hR13 hlenB
        generalize B.set j1 by_ = B2 at *
        generalize hW13 : w8.setCell ⟨g, j1, none⟩ (.int .u8 (by_.toNat : Int)) = W13 at *
        have z0 : ∀ z : KW W13, z.w.cell? ⟨w.heap.size, 0, none⟩ = some (.slice av p.names.length cv) := fun z => ((HK13.out.then z.k).cell_eq Y0.out)
        have z1 : ∀ z : KW W13, z.w.cell? ⟨w.heap.size, 1, none⟩ = some (.slice bv p.code.length dv) := fun z => ((HK13.out.then z.k).cell_eq Y1.out)
        have HC1 : Hid (∀ z : KW W13, Calls Tryz.prog 10 #[.agg #[.slice av p.names.length cv, .slice bv p.code.length dv], .slice (some ⟨g, 0, none⟩) N cap] z.w fun e w' => e = .returned (.bool true) ∧ Kept [] z.w w') := fun z => HEs.out _ B2 z.w (HK13.out.then z.k) (HR13.out.kept z.k (by simp)) (by have := HLB.out; omega) (HIn.out z.w z.k _ _)
        have HC2 : Hid (∀ z : KW W13, Calls Tryz.prog 10 #[.agg #[.slice av p.names.length cv, .slice bv p.code.length dv], .slice (some ⟨g, 0, none⟩) j2 cap] z.w fun e w' => e = .returned (.bool true) ∧ Kept [] z.w w') := fun z => HEs.out _ (B2.take j2) z.w (HK13.out.then z.k) (reads_take (HR13.out.kept z.k (by simp)) (by omega)) (by rw [List.length_take]; have := HLB.out; omega) (HIn.out z.w z.k _ _)
        clear HR13 HLB HIn
        go_wp2_with fail
        refine wp_region_kw (C := fun W => ∃ z : KW W13, W = z.w) (by kernel_rfl) (by kernel_rfl) ⟨⟨W13.drew, (Kept.refl [] W13).drew⟩, rfl⟩ ?_
        repeat (go_big_quiet_step (first | (go_at_call 10; with_reducible exact calls_kw (HC1.out _)) | (go_at_call 10; with_reducible exact calls_kw (HC2.out _)) | fail))
        refine wpQuiet_nil ?_
        rintro _ ⟨z, rfl⟩
        have HZ := Hid.mk ((HK0.out.then HK13.out).then z.k)
        go_wp2_with fail
        go_ret
        exact ⟨rfl, HZ.out⟩
  · go_wp2_with fail
    refine (HAw.out w2 HK2.out).mono ?_
    rintro e w3 ⟨rfl, k3⟩
    go_wp2_with fail
    go_ret
    exact ⟨rfl, (HK0.out.then HK2.out).then k3⟩
end
end Go.Proofs.YtibapmjgpnldgaaGreatDoor
