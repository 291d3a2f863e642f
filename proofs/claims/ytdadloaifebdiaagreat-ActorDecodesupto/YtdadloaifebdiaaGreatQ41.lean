import Derived.Test.YtdadloaifebdiaaGreatQ38
import Derived.Test.YtdadloaifebdiaaGreatQ40
/-
  Encode of the document's actor.
-/
namespace Go.Proofs.YtdadloaifebdiaaGreat
set_option maxRecDepth 100000
open Go.RowKit
set_option linter.unusedVariables false
section
variable {w w' : World} {f : Nat} {a : Ac}
set_option maxHeartbeats 8000000 in
theorem rencode12 (h : IsAf w f a) : Calls Tryz.prog 12 #[Ptr f] w fun e w' => TwoB w (encAB a) (encAE a) e w' := by
  obtain ⟨w0, fj, fi, fo, uj, ui, uo, xo, av, cv, qs, ys, ms, h⟩ := h
  have HA := Hid.mk h
  have hno : Hid (soundA a.tries a.inb.length a.poi = false → encAB a = [] ∧ encAE a = 1) := Hid.mk fun h => by unfold encAB encAE; rw [h]; exact ⟨rfl, rfl⟩
  have hyes : Hid (soundA a.tries a.inb.length a.poi = true → encAB a = encAc a ∧ encAE a = 0) := Hid.mk fun h => by unfold encAB encAE; rw [h]; exact ⟨rfl, rfl⟩
  generalize encAB a = RB at *
  generalize encAE a = RE at *
  obtain ⟨ai, ci, hui, -, -⟩ := h.i.own.row.form
  subst hui
  have HS5 : Hid (∀ W, Kept [] w W → W.cell? ⟨f, 0, none⟩ = some (Ptr fj) ∧ W.cell? ⟨f, 1, none⟩ = some (Ptr fi) ∧ W.cell? ⟨f, 2, none⟩ = some (Ptr fo) ∧ W.cell? ⟨f, 3, none⟩ = some (Iv a.tries) ∧ W.cell? ⟨f, 4, none⟩ = some (.slice av a.poi.length cv) ∧ W.cell? ⟨fi, 0, none⟩ = some (.slice ai qs.length ci)) := Hid.mk fun W kW => by
    obtain ⟨x0, x1, x2, x3, x4⟩ := (h.kept0 kW).cells
    exact ⟨x0, x1, x2, x3, x4, cell_of_one (h.kept0 kW).i.box⟩
  have kd := (Kept.refl [] w).drew
  have HC29 : Hid (Calls Tryz.prog 29 #[.int .i64 a.tries, .int .i64 (qs.length : Int), .slice av a.poi.length cv] w.drew fun e w' => e = .returned (.bool (soundA a.tries a.inb.length a.poi)) ∧ Kept [] w.drew w') := Hid.mk (by
    have := sound29 (w := w.drew) a.tries qs.length (h.kept0 kd).row
    rw [h.pm, h.ql] at this
    rw [h.ql]
    exact this)
  have S0 := HS5.out _ kd
  have HKd := Hid.mk kd
  clear h kd
  go_enter Tryz.func12, Tryz.ntmps12
  go_wp2_with fail
  go_region_held3 (fun V => V.cell? ⟨f, 0, none⟩ = some (Ptr fj) ∧ V.cell? ⟨f, 1, none⟩ = some (Ptr fi) ∧ V.cell? ⟨f, 2, none⟩ = some (Ptr fo) ∧ V.cell? ⟨f, 3, none⟩ = some (Iv a.tries) ∧ V.cell? ⟨f, 4, none⟩ = some (.slice av a.poi.length cv) ∧ V.cell? ⟨fi, 0, none⟩ = some (.slice ai qs.length ci)) (first | with_reducible exact S0 | with_reducible exact HS5.out _ HK1.out) (first | (go_at_call 29; refine HC29.out.mono ?_; rintro e w1 ⟨rfl, k1⟩; have HK1 := Hid.mk (HKd.out.trans k1 (by simp)); clear k1))
  cases hs : soundA a.tries a.inb.length a.poi with
  | false =>
    obtain ⟨e1, e2⟩ := hno.out hs
    subst e1 e2
    clear hno hyes HC29 S0
    go_wp2_with fail
    go_ret2
    exact ⟨_, rfl, Owns.nil 5 w1, HK1.out, fresh_nil w 0⟩
  | true =>
    obtain ⟨e1, e2⟩ := hyes.out hs
    subst e1 e2
    obtain ⟨t0, t2, tn, p8, pf⟩ := (soundA_iff _ _ _).1 hs
    have hfo := Hid.mk pf
    have h1 := HA.out.kept0 HK1.out
    obtain ⟨d0, d1, d2, d3, d4, d5⟩ := HS5.out _ HK1.out
    have i8 := h1.g.i8
    have hql := h1.ql
    have HP := Hid.mk (pack21 h1.i.own.row h1.i.own.vals (fun q hq => (h1.g.inb q.x (by rw [← h1.iq]; exact List.mem_map.2 ⟨q, hq, rfl⟩)).1) (by omega))
    clear h1 hno hyes HC29 S0 pf hs hql
    go_wp2_with fail
    refine HP.out.mono ?_
    rintro e w2 ⟨v2, rfl, hO2, k2, -⟩
    have hqF : allF qs = true := by
      unfold allF
      rw [List.all_eq_true]
      exact fun q hq => (HA.out.g.inb q.x (by rw [← HA.out.iq]; exact List.mem_map.2 ⟨q, hq, rfl⟩)).2
    have hE : packE qs = 0 := by unfold packE; rw [hqF]; rfl
    rw [hE]
    have hB := packB_map hqF
    rw [HA.out.iq] at hB
    rw [hB] at hO2
    obtain ⟨a2, c2, rfl⟩ := hO2.form
    have HK2 := Hid.mk (HK1.out.trans k2 (by simp))
    have HV2 := Hid.mk hO2
    have h2 := HA.out.kept0 HK2.out
    obtain ⟨d0, d1, d2, d3, d4, d5⟩ := HS5.out _ HK2.out
    have HP2 := Hid.mk (pack21 h2.row h2.vals (fun q hq => h2.g.poi q.x (by rw [← h2.pm]; exact List.mem_map.2 ⟨q, hq, rfl⟩)) (by omega))
    clear h2 HP hO2 k2 hqF hE hB
    go_wp2_with fail
    refine HP2.out.mono ?_
    rintro e w3 ⟨v3, rfl, hO3, k3, -⟩
    have hqF : allF ms = true := by rw [allF_map, HA.out.pm, List.all_eq_true]; exact hfo.out
    have hE : packE ms = 0 := by unfold packE; rw [hqF]; rfl
    rw [hE]
    have hB := packB_map hqF
    rw [HA.out.pm] at hB
    rw [hB] at hO3
    obtain ⟨a3, c3, rfl⟩ := hO3.form
    have HK3 := Hid.mk (HK2.out.trans k3 (by simp))
    have HV : Hid (Owns 5 w3 (.slice a2 (packL a.inb).length c2) (packL a.inb) ∧ Owns 5 w3 (.slice a3 (packL a.poi).length c3) (packL a.poi)) := Hid.mk ⟨HV2.out.kept k3 (by simp), hO3⟩
    obtain ⟨d0, d1, d2, d3, d4, d5⟩ := HS5.out _ HK3.out
    obtain ⟨tt, htt⟩ : ∃ n : Nat, a.tries = (n : Int) := ⟨a.tries.toNat, by omega⟩
    rw [htt] at d3
    have hut : U64 tt := by unfold U64; omega
    have H59 := Hid.mk (bst_num (w0 := w3) (w := w3) (v := .slice none 0 0) (l := []) ⟨Owns.nil 5 w3, fresh_nil w3 0, Kept.refl [] w3⟩ hut (by simp))
    have HB : Hid ((encJn a.j).length ≤ 400 ∧ (packL a.inb).length ≤ 1000 ∧ (encO a.out).length ≤ 12000 ∧ (packL a.poi).length ≤ 1000) := Hid.mk (by
      have g := HA.out.g
      have l2 := packL_length a.inb fun x hx => (g.inb x hx).2
      have l4 := packL_length a.poi hfo.out
      exact ⟨encJn_length g.j, by omega, encO_length g.out, by omega⟩)
    clear HP2 hO3 k3 hqF hE hB HV2 hut
    go_wp2_with fail
    refine H59.out.mono ?_
    rintro e w4 ⟨v4, rfl, T4⟩
    obtain ⟨d0, d1, d2, d3, d4, d5⟩ := HS5.out _ (HK3.out.trans T4.2.2 (by simp))
    have H61 := Hid.mk (rencode22 (HA.out.kept0 (HK3.out.trans T4.2.2 (by simp))).j HA.out.g.j)
    have HT4 := Hid.mk T4
    clear T4 H59
    go_wp2_with fail
    refine H61.out.mono ?_
    rintro e w5 ⟨v5, rfl, hO5, k5, -⟩
    have T5 := HT4.out.kept0 k5
    have hst := str22 hO5.reads
    obtain ⟨l1, l2, l3, l4⟩ := HB.out
    have le := enc_length tt
    have H60 := Hid.mk (bst_text T5 (encJn a.j) (by omega) (by simp; omega))
    obtain ⟨a5, c5, rfl⟩ := hO5.form
    clear T5 HT4 hO5 k5 H61
    go_wp2_with fail
    refine H60.out.mono ?_
    rintro e w6 ⟨v6, rfl, T6⟩
    have hst2 := str22 (HV.out.1.kept T6.2.2 (by simp)).reads
    have H60' := Hid.mk (bst_text T6 (packL a.inb) (by omega) (by simp only [List.nil_append, List.length_append, encTx]; have := enc_length (encJn a.j).length; omega))
    clear T6 H60 hst
    go_wp2_with fail
    refine H60'.out.mono ?_
    rintro e w7 ⟨v7, rfl, T7⟩
    obtain ⟨d0, d1, d2, d3, d4, d5⟩ := HS5.out _ (HK3.out.trans T7.2.2 (by simp))
    have H62 : Hid (Calls Tryz.prog 62 #[Ptr fo] w7 fun e w' => NewB w7 (encO a.out) e w') := Hid.mk (by
      have h7 := HA.out.kept0 (HK3.out.trans T7.2.2 (by simp))
      have := rencode15 h7.o (by rw [h7.oy]; exact h7.g.out)
      rw [h7.oy] at this
      exact this)
    have HT7 := Hid.mk T7
    clear T7 H60' hst2
    go_wp2_with fail
    refine H62.out.mono ?_
    rintro e w8 ⟨v8, rfl, hO8, k8, -⟩
    have T8 := HT7.out.kept0 k8
    have hst := str22 hO8.reads
    have H60 := Hid.mk (bst_text T8 (encO a.out) (by omega) (by simp only [List.nil_append, List.length_append, encTx]; have := enc_length (encJn a.j).length; have := enc_length (packL a.inb).length; omega))
    obtain ⟨a8, c8, rfl⟩ := hO8.form
    clear T8 HT7 hO8 k8 H62
    go_wp2_with fail
    refine H60.out.mono ?_
    rintro e w9 ⟨v9, rfl, T9⟩
    have hst2 := str22 (HV.out.2.kept T9.2.2 (by simp)).reads
    have H60' := Hid.mk (bst_text T9 (packL a.poi) (by omega) (by simp only [List.nil_append, List.length_append, encTx]; have := enc_length (encJn a.j).length; have := enc_length (packL a.inb).length; have := enc_length (encO a.out).length; omega))
    clear T9 H60 hst
    go_wp2_with fail
    refine H60'.out.mono ?_
    rintro e w10 ⟨v10, rfl, T10⟩
    go_wp2_with fail
    go_ret2
    refine ⟨v10, rfl, ?_, HK3.out.trans T10.2.2 (by simp), fun g hg => ?_⟩
    · have e : [] ++ enc tt ++ encTx (encJn a.j) ++ encTx (packL a.inb) ++ encTx (encO a.out) ++ encTx (packL a.poi) = encAc a := by
        unfold encAc
        rw [htt, Int.toNat_natCast]
        simp
      rw [← e]
      exact T10.1
    · have := T10.2.1 g hg
      have := HK3.out.size
      omega
end
end Go.Proofs.YtdadloaifebdiaaGreat
