/-
  CodeBack: the walk.
-/
import Derived.Test.YtibapmjgpnldgaaDoorAw
import Derived.Test.YtibapmjgpnldgaaDoorOu
import Derived.Test.YtibapmjgpnldgaaDoorSa
import Derived.Test.YtibapmjgpnldgaaDoorEc
import Derived.Test.YtibapmjgpnldgaaDoorDd
import Derived.Test.YtibapmjgpnldgaaDoorLinesWalk
namespace Go.Proofs.YtibapmjgpnldgaaDoor
open Go.RowKit
set_option maxRecDepth 100000
set_option linter.unusedVariables false
section
variable {w : World}
set_option maxHeartbeats 8000000 in
theorem back_walk {v : Value} {p : Pg} (hP : PgIn w v p) (hG : Glob w) (s : List UInt8) (hs : s.length ≤ 9223372036854775807) : Calls Tryd.prog 6 #[v, .string ⟨s.toArray⟩] w fun e w' => e = .returned (.bool true) ∧ Kept [] w w' := by
  have hzs : (⟨s.toArray⟩ : ByteArray).size = s.length := by simp [ByteArray.size]
  obtain ⟨⟨v1, u1, rfl, hI⟩, hK, hC⟩ := hP
  have hO : OkP p := fun x hx => (hC x hx).2
  obtain ⟨av, cv, bv, dv, rfl, rfl, -, -⟩ := hI.form
  obtain ⟨W0, e0, k0, hz0, hb0⟩ := box1 w (.cells #[.slice av p.names.length cv, .slice bv p.code.length dv] 25)
  have HAw : Hid (∀ W, Kept [] W0 W → Calls Tryd.prog 8 #[] W fun e w' => e = .returned (.bool true) ∧ Kept [] W w') := fun W k => awake8 (hG.kept (k0.then k))
  have HFw : Hid (∀ W, Kept [] W0 W → Calls Tryd.prog 9 #[.agg #[.slice av p.names.length cv, .slice bv p.code.length dv]] W fun e w' => FewAt p e ∧ Kept [] W w') := fun W k => few9 (hI.keep (k0.then k)) hK
  have HTh : Hid (∀ W, Kept [] W0 W → p.names.length ≤ 1000 → p.code.length ≤ 1000 → Calls Tryd.prog 11 #[.agg #[.slice av p.names.length cv, .slice bv p.code.length dv]] W fun e w' => ∃ v' u', e = .returned (.agg #[v', u']) ∧ IsP w' v' u' p ∧ Kept [] W w') := fun W k h1 h2 => theirs11 (hI.keep (k0.then k)) h1 h2
  have HPr : Hid (∀ (p : Pg) (v' u' : Value) W, Kept [] W0 W → IsP W v' u' p → (∀ s ∈ p.names, s.length ≤ 9223372036854775807) → OkP p → Calls Tryd.prog 10 #[.agg #[v', u']] W fun e w' => e = printE p ∧ Kept [] W w') := fun p v' u' W k h hK hO => print10 h (hG.kept (k0.then k)) hK hO
  have HPa : Hid (∀ (s : List UInt8) W, Kept [] W0 W → s.length ≤ 9223372036854775807 → Calls Tryd.prog 17 #[.string ⟨s.toArray⟩] W fun e w' => ParseR s w' e ∧ Kept [] W w') := fun s W k h => parse17 (hG.kept (k0.then k)) s h
  have HEn : Hid (∀ (v' u' : Value) W, Kept [] W0 W → IsP W v' u' p → Calls Tryd.prog 20 #[.agg #[v', u']] W fun e w' => EncAt W p e w') := fun v' u' W k h => encode20 h (hG.kept (k0.then k)) hK hO
  have HDe : Hid (∀ (v : Value) (l : List UInt8) W, Kept [] W0 W → Reads W v l → l.length ≤ 140737488355328 → Calls Tryd.prog 22 #[v] W fun e w' => DecAt W l e w') := fun v l W k h hl => decode22 v l (hG.kept (k0.then k)) h hl
  have HIp : Hid (∀ W, Kept [] W0 W → IsP W (.slice av p.names.length cv) (.slice bv p.code.length dv) p) := fun W k => hI.keep (k0.then k)
  obtain ⟨y0, y1⟩ := cells2 hb0
  have HB0 := Hid.mk hb0
  have HK0 := Hid.mk k0
  have HO := Hid.mk hO
  have HKk := Hid.mk hK
  clear k0 hb0 hz0 hI hK hC hG hO
  go_enter Tryd.func6, Tryd.ntmps6
  go_wp2_with fail
  refine (HAw.out W0 (Kept.refl [] W0)).mono ?_
  rintro e w1 ⟨rfl, k1⟩
  have HK1 := Hid.mk k1
  obtain ⟨y2, y3⟩ := cells2 (k1.keeps HB0.out (by simp))
  clear k1 y0 y1
  go_wp2_with fail
  refine (HFw.out w1 HK1.out).mono ?_
  rintro e w2 ⟨hf, k2⟩
  have HK2 := Hid.mk (HK1.out.then k2)
  obtain ⟨y0, y1⟩ := cells2 (k2.keeps (HK1.out.keeps HB0.out (by simp)) (by simp))
  clear k2 y2 y3
  rcases hf with ⟨rfl, q1, q2, q3⟩ | rfl
  · go_wp2_with fail
    refine (HTh.out w2 HK2.out (by omega) (by omega)).mono ?_
    rintro e w3 ⟨v', u', rfl, hI', k3⟩
    have HK3 := Hid.mk (HK2.out.then k3)
    have HI' := Hid.mk hI'
    clear k3 hI' y0 y1
    go_wp2_with fail
    refine (HPr.out p v' u' w3 HK3.out HI'.out HKk.out HO.out).mono ?_
    rintro e w4 ⟨he, k4⟩
    have HK4 := Hid.mk (HK3.out.then k4)
    clear k4 HI'
    unfold printE at he
    cases hf : formedP p with
    | false =>
      rw [hf, if_neg (by simp)] at he
      subst he
      clear hf
      go_wp2_with fail
      refine (HPa.out s w4 HK4.out hs).mono ?_
      rintro e w30 ⟨hp, k30⟩
      have HK30 := Hid.mk (HK4.out.then k30)
      clear k30
      rcases hp with ⟨h, rfl⟩ | ⟨h, n, hn, rfl⟩ | ⟨h, p2, v2, u2, hp2, hi2, rfl⟩
      · go_wp2_with fail
        go_ret
        exact ⟨rfl, (HK0.out.then HK30.out).alloc _⟩
      · clear hn
        go_wp2_with fail
        go_ret
        exact ⟨rfl, (HK0.out.then HK30.out).alloc _⟩
      · obtain ⟨q1, q2, q3⟩ := print_parse hp2
        have HPE := Hid.mk (HPr.out p2 v2 u2)
        obtain ⟨a2, c2, b2, d2, rfl, rfl, -, -⟩ := hi2.form
        obtain ⟨W31, e31, k31, hz31, hb31⟩ := box1 w30 (.cells #[.slice a2 p2.names.length c2, .slice b2 p2.code.length d2] 33)
        have HK31 := Hid.mk (HK30.out.then k31)
        obtain ⟨m0, m1⟩ := cells2 hb31
        have HC := Hid.mk (HPE.out W31 HK31.out (hi2.keep k31) (fun x hx => by have := (isKey_iff _).1 ((formed_parts q1).2.2.1 x hx); omega) q2)
        unfold printE at HC
        rw [if_pos q1] at HC
        have hle : s.length ≤ 20000 := h
        clear k31 hz31 hb31 hi2 hp2 q1 q2 HPE
        rcases q3 with q3 | q3
        · rw [q3] at HC
          clear q3
          go_wp2_with fail
          refine HC.out.mono ?_
          rintro e w32 ⟨rfl, k32⟩
          go_wp2_with fail
          go_ret
          exact ⟨rfl, HK0.out.then (HK31.out.then k32)⟩
        · rw [q3] at HC
          have hcat : (⟨s.toArray⟩ : ByteArray) ++ ⟨#[10]⟩ = ⟨(s ++ [10]).toArray⟩ := by apply ByteArray.ext; simp
          have hne : ((s ++ [10]) == s) = false := by
            simp only [beq_eq_false_iff_ne, ne_eq]
            intro h
            have := congrArg List.length h
            simp at this
          have hx2 : (s ++ [10]).length ≤ 20001 := by simp; omega
          have hzt2 : (⟨(s ++ [10]).toArray⟩ : ByteArray).size = (s ++ [10]).length := by simp [ByteArray.size]
          clear q3
          generalize (s ++ [10]) = s2 at *
          go_wp2_with fail
          refine HC.out.mono ?_
          rintro e w32 ⟨rfl, k32⟩
          go_wp2_with fail
          go_ret
          exact ⟨rfl, HK0.out.then (HK31.out.then k32)⟩
    | true =>
      rw [hf, if_pos rfl] at he
      subst he
      have HPP := Hid.mk (parse_print hf HO.out)
      have hpl := printP_len hf HO.out
      have HDB := Hid.mk (decPg_back hf HO.out)
      have hel := encPg_length hf
      have HC5 := Hid.mk (HPa.out (printP p) w4 HK4.out (by omega))
      have hz5 : (⟨(printP p).toArray⟩ : ByteArray).size = (printP p).length := by simp [ByteArray.size]
      have HFm := Hid.mk hf
      clear hf
      generalize printP p = tx at *
      go_wp2_with fail
      refine HC5.out.mono ?_
      rintro e w5 ⟨hp, k5⟩
      obtain ⟨v5, u5, hi5, rfl⟩ : ∃ v u, IsP w5 v u p ∧ e = .returned (.tuple #[.agg #[v, u], .int .i64 0, .int .i64 0]) := by
        rcases hp with ⟨h, -⟩ | ⟨h, n, hn, -⟩ | ⟨h, p5, v, u, hp, hi, he⟩
        · omega
        · rw [HPP.out] at hn; cases hn
        · rw [HPP.out] at hp
          cases hp
          exact ⟨v, u, hi, he⟩
      obtain ⟨a5, c5, b5, d5, rfl, rfl, -, -⟩ := hi5.form
      obtain ⟨W6, e6, k6, hz6, hb6⟩ := box1 w5 (.cells #[.slice a5 p.names.length c5, .slice b5 p.code.length d5] 33)
      have HK6 := Hid.mk ((HK4.out.then k5).then k6)
      have HI6 := Hid.mk (hi5.keep k6)
      have HB6 := Hid.mk hb6
      obtain ⟨y0, y1⟩ := cells2 (HK6.out.keeps HB0.out (by simp))
      have hlw : w.heap.size < w5.heap.size := by have h := lt_of_block ((HK4.out.then k5).keeps HB0.out (by simp)); exact h
      clear hp k5 k6 hz6 hb6 hi5 HC5 HPP
      go_wp2_with fail
      refine (HTh.out W6 HK6.out (by omega) (by omega)).mono ?_
      rintro e w7 ⟨v7, u7, rfl, hI7, k7⟩
      have HK7 := Hid.mk (HK6.out.then k7)
      have HI7 := Hid.mk hI7
      have HB7 := Hid.mk (k7.keeps HB6.out (by simp))
      have HI67 := Hid.mk (HI6.out.keep k7)
      clear k7 hI7 y0 y1 HB6 HI6
      go_wp2_with fail
      refine (HEn.out v7 u7 w7 HK7.out HI7.out).mono ?_
      rintro e w8 hE
      obtain ⟨v8, rfl, hO8, k8, -⟩ : ∃ v, e = .returned (.tuple #[v, .int .i64 0]) ∧ Owns 5 w8 v (encPg p) ∧ Kept [] w7 w8 ∧ Fresh w7 v := by
        rcases hE with ⟨h, -⟩ | ⟨h, h2⟩
        · rw [HFm.out] at h; cases h
        · exact h2
      have HK8 := Hid.mk (HK7.out.then k8)
      have HB8 := Hid.mk (k8.keeps HB7.out (by simp))
      have HI8 := Hid.mk (HI67.out.keep k8)
      have HC9 := Hid.mk (HDe.out v8 (encPg p) w8 HK8.out hO8.reads (by omega))
      obtain ⟨a8, c8, rfl⟩ := hO8.form
      clear hE hO8 k8 HB7 HI67
      go_wp2_with fail
      refine HC9.out.mono ?_
      rintro e w9 hD
      obtain ⟨v9, u9, rfl, hi9, k9⟩ : ∃ v u, e = .returned (.tuple #[.agg #[v, u], .int .i64 0]) ∧ IsP w9 v u p ∧ Kept [] w8 w9 := by
        rcases hD with ⟨h, -⟩ | ⟨p9, v, u, h, h2, h3, h4⟩
        · rw [HDB.out] at h; cases h
        · rw [HDB.out] at h
          cases h
          exact ⟨v, u, h2, h3, h4⟩
      obtain ⟨a9, c9, b9, d9, rfl, rfl, -, -⟩ := hi9.form
      obtain ⟨W10, e10, k10, hz10, hb10⟩ := box1 w9 (.cells #[.slice a9 p.names.length c9, .slice b9 p.code.length d9] 33)
      have HK10 := Hid.mk ((HK8.out.then k9).then k10)
      have HI9 : Hid (∀ W, Kept [] W10 W → IsP W (.slice a9 p.names.length c9) (.slice b9 p.code.length d9) p) := fun W k => hi9.keep (k10.then k)
      have HI5 : Hid (∀ W, Kept [] W10 W → IsP W (.slice a5 p.names.length c5) (.slice b5 p.code.length d5) p) := fun W k => HI8.out.keep ((k9.then k10).then k)
      have HIp2 : Hid (∀ W, Kept [] W10 W → IsP W (.slice av p.names.length cv) (.slice bv p.code.length dv) p) := fun W k => HIp.out W (HK10.out.then k)
      have HS : Hid (∀ W, Kept [] W10 W → (W.cell? ⟨w5.heap.size, 0, none⟩ = some (.slice a5 p.names.length c5) ∧ W.cell? ⟨w5.heap.size, 1, none⟩ = some (.slice b5 p.code.length d5)) ∧ (W.cell? ⟨w9.heap.size, 0, none⟩ = some (.slice a9 p.names.length c9) ∧ W.cell? ⟨w9.heap.size, 1, none⟩ = some (.slice b9 p.code.length d9)) ∧ W.cell? ⟨w.heap.size, 0, none⟩ = some (.slice av p.names.length cv) ∧ W.cell? ⟨w.heap.size, 1, none⟩ = some (.slice bv p.code.length dv)) := fun W k => ⟨cells2 (((k9.then k10).then k).keeps HB8.out (by simp)), cells2 (k.keeps hb10 (by simp)), cells2 ((HK10.out.then k).keeps HB0.out (by simp))⟩
      have HOu : Hid (∀ (v u : Value) W, IsP W v u p → Calls Tryd.prog 19 #[.agg #[v, u]] W fun e w' => ∃ v' u', e = .returned (.agg #[v', u']) ∧ IsP w' v' u' p ∧ Kept [] W w') := fun v u W h => ours19 h (by omega) (by omega)
      have HSm : Hid (∀ (v u v' u' : Value) W, IsP W v u p → IsP W v' u' p → Calls Tryd.prog 16 #[.agg #[v, u], .agg #[v', u']] W fun e w' => e = .returned (.bool true) ∧ Kept [] W w') := fun v u v' u' W h h' => same16 h h'
      clear hD k9 k10 hz10 hb10 hi9 HC9 HB8 HI8 HDB
      have K0 : Hid (Kept [] W10 W10.drew) := (Kept.refl [] W10).drew
      have S0 := HS.out _ K0.out
      go_wp2_with fail
      generalize hg5 : w5.heap.size = g5 at *
      generalize hg9 : w9.heap.size = g9 at *
      clear hg5 hg9
      generalize hg0 : w.heap.size = g0 at *
      clear hg0
      go_region_held3 (fun V => (V.cell? ⟨g5, 0, none⟩ = some (.slice a5 p.names.length c5) ∧ V.cell? ⟨g5, 1, none⟩ = some (.slice b5 p.code.length d5)) ∧ (V.cell? ⟨g9, 0, none⟩ = some (.slice a9 p.names.length c9) ∧ V.cell? ⟨g9, 1, none⟩ = some (.slice b9 p.code.length d9)) ∧ V.cell? ⟨g0, 0, none⟩ = some (.slice av p.names.length cv) ∧ V.cell? ⟨g0, 1, none⟩ = some (.slice bv p.code.length dv)) (first | with_reducible exact S0 | with_reducible exact S1 | with_reducible exact S2 | with_reducible exact S3 | with_reducible exact S4) (first | (go_at_call 16; (with_reducible refine (HSm.out _ _ _ _ _ I3.out (HIp2.out _ K3.out)).mono ?_); rintro e w24 ⟨rfl, k⟩; have K4 := Hid.mk (K3.out.then k); have S4 := HS.out _ K4.out; clear k) | (go_at_call 19; (with_reducible refine (HOu.out _ _ _ (HI9.out _ K2.out)).mono ?_); rintro e w23 ⟨v3, u3, rfl, i3, k⟩; have I3 := Hid.mk i3; have K3 := Hid.mk (K2.out.then k); have S3 := HS.out _ K3.out; clear i3 k) | (go_at_call 16; (with_reducible refine (HSm.out _ _ _ _ _ I1.out (HIp2.out _ K1.out)).mono ?_); rintro e w22 ⟨rfl, k⟩; have K2 := Hid.mk (K1.out.then k); have S2 := HS.out _ K2.out; clear k) | (go_at_call 19; (with_reducible refine (HOu.out _ _ _ (HI5.out _ K0.out)).mono ?_); rintro e w21 ⟨v1, u1, rfl, i1, k⟩; have I1 := Hid.mk i1; have K1 := Hid.mk (K0.out.then k); have S1 := HS.out _ K1.out; clear i1 k))
      have HK24 := Hid.mk (HK10.out.then K4.out)
      clear S0 S1 S2 S3 S4 K0 K1 K2 K3 K4 I1 I3 HS HI9 HI5 HIp2
      go_wp2_with fail
      refine (HPa.out s w24 HK24.out hs).mono ?_
      rintro e w30 ⟨hp, k30⟩
      have HK30 := Hid.mk (HK24.out.then k30)
      clear k30
      rcases hp with ⟨h, rfl⟩ | ⟨h, n, hn, rfl⟩ | ⟨h, p2, v2, u2, hp2, hi2, rfl⟩
      · go_wp2_with fail
        go_ret
        exact ⟨rfl, (HK0.out.then HK30.out).alloc _⟩
      · clear hn
        go_wp2_with fail
        go_ret
        exact ⟨rfl, (HK0.out.then HK30.out).alloc _⟩
      · obtain ⟨q1, q2, q3⟩ := print_parse hp2
        have HPE := Hid.mk (HPr.out p2 v2 u2)
        obtain ⟨a2, c2, b2, d2, rfl, rfl, -, -⟩ := hi2.form
        obtain ⟨W31, e31, k31, hz31, hb31⟩ := box1 w30 (.cells #[.slice a2 p2.names.length c2, .slice b2 p2.code.length d2] 33)
        have HK31 := Hid.mk (HK30.out.then k31)
        obtain ⟨m0, m1⟩ := cells2 hb31
        have HC := Hid.mk (HPE.out W31 HK31.out (hi2.keep k31) (fun x hx => by have := (isKey_iff _).1 ((formed_parts q1).2.2.1 x hx); omega) q2)
        unfold printE at HC
        rw [if_pos q1] at HC
        have hle : s.length ≤ 20000 := h
        clear k31 hz31 hb31 hi2 hp2 q1 q2 HPE
        rcases q3 with q3 | q3
        · rw [q3] at HC
          clear q3
          go_wp2_with fail
          refine HC.out.mono ?_
          rintro e w32 ⟨rfl, k32⟩
          go_wp2_with fail
          go_ret
          exact ⟨rfl, HK0.out.then (HK31.out.then k32)⟩
        · rw [q3] at HC
          have hcat : (⟨s.toArray⟩ : ByteArray) ++ ⟨#[10]⟩ = ⟨(s ++ [10]).toArray⟩ := by apply ByteArray.ext; simp
          have hne : ((s ++ [10]) == s) = false := by
            simp only [beq_eq_false_iff_ne, ne_eq]
            intro h
            have := congrArg List.length h
            simp at this
          have hx2 : (s ++ [10]).length ≤ 20001 := by simp; omega
          have hzt2 : (⟨(s ++ [10]).toArray⟩ : ByteArray).size = (s ++ [10]).length := by simp [ByteArray.size]
          clear q3
          generalize (s ++ [10]) = s2 at *
          go_wp2_with fail
          refine HC.out.mono ?_
          rintro e w32 ⟨rfl, k32⟩
          go_wp2_with fail
          go_ret
          exact ⟨rfl, HK0.out.then (HK31.out.then k32)⟩
  · go_wp2_with fail
    refine (HAw.out w2 HK2.out).mono ?_
    rintro e w3 ⟨rfl, k3⟩
    go_wp2_with fail
    go_ret
    exact ⟨rfl, (HK0.out.then HK2.out).then k3⟩
end
end Go.Proofs.YtibapmjgpnldgaaDoor
