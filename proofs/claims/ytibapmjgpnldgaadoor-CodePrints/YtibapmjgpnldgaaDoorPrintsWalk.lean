/-
  CodePrints: the walk.
-/
import Derived.Test.YtibapmjgpnldgaaDoorAw
import Derived.Test.YtibapmjgpnldgaaDoorSc
import Derived.Test.YtibapmjgpnldgaaDoorPd
import Derived.Test.YtibapmjgpnldgaaDoorLinesWalk
namespace Go.Proofs.YtibapmjgpnldgaaDoor
open Go.RowKit
set_option maxRecDepth 100000
set_option linter.unusedVariables false
section
variable {w : World}
set_option maxHeartbeats 8000000 in
theorem prints_walk {v vq : Value} {p q : Pg} (hP : PgIn w v p) (hG : Glob w) (hQ : PgIn w vq q) : Calls Tryd.prog 3 #[v, vq] w fun e w' => e = .returned (.bool true) ∧ Kept [] w w' := by
  obtain ⟨⟨v1, u1, rfl, hI⟩, hK, hC⟩ := hP
  obtain ⟨⟨v2, u2, rfl, hJ⟩, hKq, hCq⟩ := hQ
  have hO : OkP p := fun x hx => (hC x hx).2
  obtain ⟨av, cv, bv, dv, rfl, rfl, -, -⟩ := hI.form
  obtain ⟨aq, cq, bq, dq, rfl, rfl, -, -⟩ := hJ.form
  obtain ⟨W0, e0, k0, hz0, hb0, hb1⟩ := box2 w (.cells #[.slice av p.names.length cv, .slice bv p.code.length dv] 25) (.cells #[.slice aq q.names.length cq, .slice bq q.code.length dq] 25)
  have HAw : Hid (∀ W, Kept [] W0 W → Calls Tryd.prog 8 #[] W fun e w' => e = .returned (.bool true) ∧ Kept [] W w') := fun W k => awake8 (hG.kept (k0.then k))
  have HFw : Hid (∀ W, Kept [] W0 W → Calls Tryd.prog 9 #[.agg #[.slice av p.names.length cv, .slice bv p.code.length dv]] W fun e w' => FewAt p e ∧ Kept [] W w') := fun W k => few9 (hI.keep (k0.then k)) hK
  have HFq : Hid (∀ W, Kept [] W0 W → Calls Tryd.prog 9 #[.agg #[.slice aq q.names.length cq, .slice bq q.code.length dq]] W fun e w' => FewAt q e ∧ Kept [] W w') := fun W k => few9 (hJ.keep (k0.then k)) hKq
  have HTh : Hid (∀ W, Kept [] W0 W → p.names.length ≤ 1000 → p.code.length ≤ 1000 → Calls Tryd.prog 11 #[.agg #[.slice av p.names.length cv, .slice bv p.code.length dv]] W fun e w' => ∃ v' u', e = .returned (.agg #[v', u']) ∧ IsP w' v' u' p ∧ Kept [] W w') := fun W k h1 h2 => theirs11 (hI.keep (k0.then k)) h1 h2
  have HTq : Hid (∀ W, Kept [] W0 W → q.names.length ≤ 1000 → q.code.length ≤ 1000 → Calls Tryd.prog 11 #[.agg #[.slice aq q.names.length cq, .slice bq q.code.length dq]] W fun e w' => ∃ v' u', e = .returned (.agg #[v', u']) ∧ IsP w' v' u' q ∧ Kept [] W w') := fun W k h1 h2 => theirs11 (hJ.keep (k0.then k)) h1 h2
  have hpe : ∃ (t : List UInt8) (er : Int), printE p = .returned (.tuple #[.string ⟨t.toArray⟩, .int .i64 er]) := by
    unfold printE
    split
    · exact ⟨_, _, rfl⟩
    · exact ⟨[], 1, rfl⟩
  obtain ⟨tx, er, hpe⟩ := hpe
  have HPr : Hid (∀ (v' u' : Value) W, Kept [] W0 W → IsP W v' u' p → Calls Tryd.prog 10 #[.agg #[v', u']] W fun e w' => e = .returned (.tuple #[.string ⟨tx.toArray⟩, .int .i64 er]) ∧ Kept [] W w') := fun v' u' W k h => by rw [← hpe]; exact print10 h (hG.kept (k0.then k)) hK hO
  have HPd : Hid (∀ W, Kept [] W0 W → Calls Tryd.prog 12 #[.agg #[.slice av p.names.length cv, .slice bv p.code.length dv]] W fun e w' => e = .returned (.tuple #[.string ⟨tx.toArray⟩, .int .i64 er]) ∧ Kept [] W w') := fun W k => by rw [← hpe]; exact print12 (hI.keep (k0.then k)) (hG.kept (k0.then k)) hK hO
  have HFm : Hid (∀ (v' u' : Value) W, Kept [] W0 W → IsP W v' u' p → Calls Tryd.prog 13 #[.agg #[v', u']] W fun e w' => e = .returned (.bool (formedP p)) ∧ Kept [] W w') := fun v' u' W k h => formed13 h hK (hG.kept (k0.then k))
  have HFd : Hid (∀ W, Kept [] W0 W → Calls Tryd.prog 14 #[.agg #[.slice av p.names.length cv, .slice bv p.code.length dv]] W fun e w' => e = .returned (.bool (formedP p)) ∧ Kept [] W w') := fun W k => formed14 (hI.keep (k0.then k)) hK
  have HSm : Hid (∀ (v u v' u' : Value) W, IsP W v u p → IsP W v' u' q → Calls Tryd.prog 15 #[.agg #[v, u], .agg #[v', u']] W fun e w' => e = .returned (.bool (sameP p q)) ∧ Kept [] W w') := fun v u v' u' W h h' => same15 h h'
  have HSd : Hid (∀ W, Kept [] W0 W → Calls Tryd.prog 16 #[.agg #[.slice av p.names.length cv, .slice bv p.code.length dv], .agg #[.slice aq q.names.length cq, .slice bq q.code.length dq]] W fun e w' => e = .returned (.bool (sameP p q)) ∧ Kept [] W w') := fun W k => same16_any (hI.keep (k0.then k)) (hJ.keep (k0.then k))
  have HS : Hid (∀ W, Kept [] W0 W → (W.cell? ⟨w.heap.size, 0, none⟩ = some (.slice av p.names.length cv) ∧ W.cell? ⟨w.heap.size, 1, none⟩ = some (.slice bv p.code.length dv)) ∧ W.cell? ⟨w.heap.size + 1, 0, none⟩ = some (.slice aq q.names.length cq) ∧ W.cell? ⟨w.heap.size + 1, 1, none⟩ = some (.slice bq q.code.length dq)) := fun W k => ⟨cells2 (k.keeps hb0 (by simp)), cells2 (k.keeps hb1 (by simp))⟩
  obtain ⟨⟨y0, y1⟩, y2, y3⟩ := HS.out W0 (Kept.refl [] W0)
  have HK0 := Hid.mk k0
  clear k0 hb0 hb1 hz0 hI hK hC hG hO hJ hKq hCq hpe
  generalize formedP p = fm at *
  generalize sameP p q = sm at *
  go_enter Tryd.func3, Tryd.ntmps3
  go_wp2_with fail
  refine (HAw.out W0 (Kept.refl [] W0)).mono ?_
  rintro e w1 ⟨rfl, k1⟩
  have HK1 := Hid.mk k1
  clear k1 y0 y1 y2 y3
  obtain ⟨⟨y0, y1⟩, y2, y3⟩ := HS.out w1 HK1.out
  go_wp2_with fail
  refine (HFw.out w1 HK1.out).mono ?_
  rintro e w2 ⟨hf, k2⟩
  have HK2 := Hid.mk (HK1.out.then k2)
  clear k2 y0 y1 y2 y3
  obtain ⟨⟨y0, y1⟩, y2, y3⟩ := HS.out w2 HK2.out
  rcases hf with ⟨rfl, q1, q2, q3⟩ | rfl
  · go_wp2_with fail
    refine (HFq.out w2 HK2.out).mono ?_
    rintro e w3 ⟨hf, k3⟩
    have HK3 := Hid.mk (HK2.out.then k3)
    clear k3 y0 y1 y2 y3
    obtain ⟨⟨y0, y1⟩, y2, y3⟩ := HS.out w3 HK3.out
    rcases hf with ⟨rfl, r1, r2, r3⟩ | rfl
    · go_wp2_with fail
      refine (HTh.out w3 HK3.out (by omega) (by omega)).mono ?_
      rintro e w4 ⟨v', u', rfl, hI', k4⟩
      have HK4 := Hid.mk (HK3.out.then k4)
      have HI' := Hid.mk hI'
      clear k4 hI' y0 y1 y2 y3
      go_wp2_with fail
      refine (HPr.out v' u' w4 HK4.out HI'.out).mono ?_
      rintro e w5 ⟨rfl, k5⟩
      have HK5 := Hid.mk (HK4.out.then k5)
      clear k5 HI'
      obtain ⟨⟨y0, y1⟩, y2, y3⟩ := HS.out w5 HK5.out
      go_wp2_with fail
      refine (HPd.out w5 HK5.out).mono ?_
      rintro e w6 ⟨rfl, k6⟩
      have HK6 := Hid.mk (HK5.out.then k6)
      clear k6 y0 y1 y2 y3
      have K0 : Hid (Kept [] W0 w6.drew) := HK6.out.drew
      have S0 := HS.out _ K0.out
      go_wp2_with fail
      generalize w.heap.size = g at *
      go_region_held3 (fun V => (V.cell? ⟨g, 0, none⟩ = some (.slice av p.names.length cv) ∧ V.cell? ⟨g, 1, none⟩ = some (.slice bv p.code.length dv)) ∧ V.cell? ⟨g + 1, 0, none⟩ = some (.slice aq q.names.length cq) ∧ V.cell? ⟨g + 1, 1, none⟩ = some (.slice bq q.code.length dq)) (first | with_reducible exact S0 | with_reducible exact S1 | with_reducible exact S2 | with_reducible exact S3 | with_reducible exact S4 | with_reducible exact S5 | with_reducible exact S6 | with_reducible exact S7) (first | (go_at_call 16; (with_reducible refine (HSd.out _ K6.out).mono ?_); rintro e w27 ⟨rfl, k⟩; have K7 := Hid.mk (K6.out.then k); have S7 := HS.out _ K7.out; clear k) | (go_at_call 15; (with_reducible refine (HSm.out _ _ _ _ _ I45.out I5.out).mono ?_); rintro e w26 ⟨rfl, k⟩; have K6 := Hid.mk (K5.out.then k); have S6 := HS.out _ K6.out; clear k) | (go_at_call 11; (with_reducible refine (HTq.out _ K4.out (by omega) (by omega)).mono ?_); rintro e w25 ⟨v5, u5, rfl, i5, k⟩; have I5 := Hid.mk i5; have I45 := Hid.mk (I4.out.keep k); have K5 := Hid.mk (K4.out.then k); have S5 := HS.out _ K5.out; clear i5 k) | (go_at_call 11; (with_reducible refine (HTh.out _ K3.out (by omega) (by omega)).mono ?_); rintro e w24 ⟨v4, u4, rfl, i4, k⟩; have I4 := Hid.mk i4; have K4 := Hid.mk (K3.out.then k); have S4 := HS.out _ K4.out; clear i4 k) | (go_at_call 14; (with_reducible refine (HFd.out _ K2.out).mono ?_); rintro e w23 ⟨rfl, k⟩; have K3 := Hid.mk (K2.out.then k); have S3 := HS.out _ K3.out; clear k) | (go_at_call 13; (with_reducible refine (HFm.out _ _ _ K1.out I1.out).mono ?_); rintro e w22 ⟨rfl, k⟩; have K2 := Hid.mk (K1.out.then k); have S2 := HS.out _ K2.out; clear k) | (go_at_call 11; (with_reducible refine (HTh.out _ K0.out (by omega) (by omega)).mono ?_); rintro e w21 ⟨v1, u1, rfl, i1, k⟩; have I1 := Hid.mk i1; have K1 := Hid.mk (K0.out.then k); have S1 := HS.out _ K1.out; clear i1 k))
      have HK9 := Hid.mk (HK0.out.then K7.out)
      clear S0 S1 S2 S3 S4 S5 S6 S7 HS
      go_wp2_with fail
      go_ret
      exact ⟨rfl, HK9.out⟩
    · go_wp2_with fail
      refine (HAw.out w3 HK3.out).mono ?_
      rintro e w4 ⟨rfl, k4⟩
      go_wp2_with fail
      go_ret
      exact ⟨rfl, (HK0.out.then HK3.out).then k4⟩
  · go_wp2_with fail
    refine (HAw.out w2 HK2.out).mono ?_
    rintro e w3 ⟨rfl, k3⟩
    go_wp2_with fail
    go_ret
    exact ⟨rfl, (HK0.out.then HK2.out).then k3⟩
end
end Go.Proofs.YtibapmjgpnldgaaDoor
