import Derived.Test.YtdadloaifebdiaaGreatQ17
import Derived.Test.YtdadloaifebdiaaGreatQ30
/-
  The document's outbox: ordered.
-/
namespace Go.Proofs.YtdadloaifebdiaaGreat
set_option maxRecDepth 100000
open Go.RowKit
set_option linter.unusedVariables false
section
variable {w0 w w' : World} {pf : Nat} {v u : Value} {own : List UInt8} {K : List La} {ms : List Yq}
theorem rev_at {L : List Ot} {t : Nat} (h : t < L.length) : L.reverse.drop t = (L[L.length - 1 - t]'(by omega)) :: L.reverse.drop (t + 1) := by
  rw [List.drop_eq_getElem_cons (by simp; exact h)]
  congr 1
  rw [List.getElem_reverse]
set_option maxHeartbeats 4000000 in
theorem ordered55 (hF : IsF w0 w pf v u own K ms) (hK : K.length ≤ 64) (hm : ms.length ≤ 32) (hu : ∀ y ∈ K, U64 y.s) : Calls Tryz.prog 82 #[.pointer (some ⟨pf, 0, none⟩)] w fun e w' => e = .returned (.bool (ordO K (ms.map ot))) ∧ Kept [] w w' := by
  obtain ⟨au, cu, rfl, hc1, hc2⟩ := rowK_form hF.krow
  obtain ⟨av, cv, rfl, hv1, hv2⟩ := rowY_form hF.ys.row
  have HF := Hid.mk hF
  have HU := Hid.mk hu
  clear hF hu
  have HC : Hid (∀ W, Kept [] w W → W.cell? ⟨pf, 0, none⟩ = some (Sv own) ∧ W.cell? ⟨pf, 1, none⟩ = some (.slice av ms.length cv) ∧ W.cell? ⟨pf, 2, none⟩ = some (.slice au K.length cu)) := fun W k => cells3 (HF.out.kept0 k).box
  generalize hn : K.length = n at *
  generalize hmm : ms.length = m at *
  have HN := Hid.mk hn
  have HM := Hid.mk hmm
  clear hn hmm
  obtain ⟨x0, x1, x2⟩ := HC.out _ (Kept.refl [] w)
  have HY : Hid (∀ W, (∀ y ∈ K, ordR y.k (ms.map ot).reverse y.s = true) → Kept [] w W → (Ending.returned (.bool true) = .returned (.bool (ordO K (ms.map ot))) ∧ Kept [] w W)) := fun W h k => ⟨by rw [show ordO K (ms.map ot) = true by simpa [ordO] using h], k⟩
  have HNO : Hid (∀ W y, y ∈ K → ordR y.k (ms.map ot).reverse y.s = false → Kept [] w W → (Ending.returned (.bool false) = .returned (.bool (ordO K (ms.map ot))) ∧ Kept [] w W)) := fun W y hy h k => ⟨by
    have : ordO K (ms.map ot) = false := by
      unfold ordO
      rw [List.all_eq_false]
      exact ⟨y, hy, by rw [h]; simp⟩
    rw [this], k⟩
  go_enter Tryz.func82, Tryz.ntmps82
  go_wp2_with fail
  clear x0 x1 x2
  go_loopw [11] (fun i wr => ∃ j : Nat, i = .int .i64 (j : Int) ∧ j ≤ n ∧ Hid (∀ y ∈ K.take j, ordR y.k (ms.map ot).reverse y.s = true) ∧ Hid (Kept [] w wr)) (fun i _ => n - (intOf i).toNat)
  case atStart => exact ⟨0, rfl, by omega, Hid.mk (by simp), Hid.mk (Kept.refl [] _)⟩
  case round =>
    obtain ⟨j, rfl, hj, hall, hk⟩ := hrel
    by_cases hlt : j < n
    · have hjI : (j : Int) < (n : Int) := by omega
      have hj0 : (0 : Int) ≤ (j : Int) := by omega
      obtain ⟨y, hy⟩ : ∃ y, K[j]? = some y := ⟨_, List.getElem?_eq_getElem (by have := HN.out; omega)⟩
      obtain ⟨b, o, rfl, -, -⟩ := rowK_at (HF.out.kept0 hk.out).krow hy
      have HKC : Hid (∀ W, Kept [] w W → W.cell? ⟨b, o + j * 2, none⟩ = some (Sv y.k) ∧ W.cell? ⟨b, o + j * 2 + 1, none⟩ = some (Uv y.s)) := fun W k => by
        obtain ⟨b', o', e, d0, d1⟩ := rowK_at (HF.out.kept0 k).krow hy
        injection e with e
        injection e with e1 e2 _
        subst e1 e2
        exact ⟨d0, d1⟩
      obtain ⟨d0, d1⟩ := HKC.out _ hk.out
      obtain ⟨x0, x1, x2⟩ := HC.out _ hk.out
      have hyK := List.mem_of_getElem? hy
      have hys : y.s < 18446744073709551616 := HU.out y hyK
      have HTK : Hid (∀ z ∈ K.take (j + 1), z ∈ K.take j ∨ z = y) := fun z hz => by
        rw [List.take_add_one, hy] at hz
        simpa using hz
      have HYK := Hid.mk hyK
      clear hy hyK
      go_wp2_with fail
      clear d0 d1 x0 x1 x2
      go_loopw [4, 5] (fun sv k ws => ∃ (t s : Nat), sv = Uv s ∧ k = .int .i64 ((m : Int) - 1 - (t : Int)) ∧ t ≤ m ∧ s < 18446744073709551616 ∧ Hid (ordR y.k (ms.map ot).reverse y.s = ordR y.k ((ms.map ot).reverse.drop t) s) ∧ Hid (Kept [] w ws)) (fun _ k _ => (intOf k + 1).toNat)
      case atStart => exact ⟨0, y.s, rfl, by simp, by omega, hys, Hid.mk rfl, hk⟩
      case round =>
        obtain ⟨t, s, rfl, rfl, ht, hs64, hord, hk2⟩ := hrel
        by_cases htm : t < m
        · obtain ⟨z, hz⟩ : ∃ z, ms[m - 1 - t]? = some z := ⟨_, List.getElem?_eq_getElem (by have := HM.out; omega)⟩
          have hrev : (ms.map ot).reverse.drop t = ot z :: (ms.map ot).reverse.drop (t + 1) := by
            have hl : (ms.map ot).length = m := by rw [List.length_map]; exact HM.out
            rw [rev_at (L := ms.map ot) (t := t) (by omega)]
            congr 1
            have h1 : (ms.map ot)[(ms.map ot).length - 1 - t]? = some (ot z) := by rw [hl, List.getElem?_map, hz]; rfl
            exact (List.getElem?_eq_some_iff.1 h1).2
          have HORD : Hid (ordR y.k (ms.map ot).reverse y.s = if z.to = y.k then (s != 0) && (z.q.x.ser == s) && ordR y.k ((ms.map ot).reverse.drop (t + 1)) (s - 1) else ordR y.k ((ms.map ot).reverse.drop (t + 1)) s) := by
            show _ = _
            rw [hord.out, hrev, ordR_cons]
            rfl
          obtain ⟨b5, o5, rfl, -, -, -, -, -⟩ := rowY_at (HF.out.kept0 hk2.out).ys.row hz
          have HZC : Hid (∀ W, Kept [] w W → W.cell? ⟨b5, o5 + (m - 1 - t) * 5, none⟩ = some (Sv z.to) ∧ W.cell? ⟨b5, o5 + (m - 1 - t) * 5 + 2, none⟩ = some (.int .u64 (z.q.x.ser : Int))) := fun W k => by
            obtain ⟨b', o', e, e0, -, e2, -, -⟩ := rowY_at (HF.out.kept0 k).ys.row hz
            injection e with e
            injection e with e1 e3 _
            subst e1 e3
            exact ⟨e0, e2⟩
          obtain ⟨e0, e2⟩ := HZC.out _ hk2.out
          obtain ⟨d0, d1⟩ := HKC.out _ hk2.out
          obtain ⟨x0, x1, x2⟩ := HC.out _ hk2.out
          have hkk : (m : Int) - 1 - (t : Int) = ((m - 1 - t : Nat) : Int) := by omega
          rw [hkk]
          have hq0 : (0 : Int) ≤ ((m - 1 - t : Nat) : Int) := by omega
          have hq1 : ((m - 1 - t : Nat) : Int) < (m : Int) := by omega
          have Hkk : Hid (((m - 1 - t : Nat) : Int) - 1 = (m : Int) - 1 - ((t + 1 : Nat) : Int)) := by show _ = _; omega
          have hqm : m - 1 - t < 1000 := by omega
          clear hz hrev hord hkk
          generalize m - 1 - t = q at *
          by_cases hto : z.to = y.k
          · have HO2 := Hid.mk (HORD.out.trans (if_pos hto))
            rw [hto] at e0
            clear hto HORD
            by_cases hs0 : s = 0
            · have HR := Hid.mk (HNO.out (wr.drewN 0) y HYK.out (by rw [HO2.out]; simp [hs0]) (hk2.out.drewN 0))
              have hz0 : ((s : Int) == 0) = true := by simp [hs0]
              have HS0 := Hid.mk hs0
              clear hs0
              go_wp2_with fail
              go_quiet (fail)
              go_wp2_with fail
              go_ret
              exact HNO.out _ y HYK.out (by rw [HO2.out]; simp [HS0.out]) (hk2.out.drewN nq)
            · have hz0 : ((s : Int) == 0) = false := by simp; omega
              by_cases hse : z.q.x.ser = s
              · have hs1 : 1 ≤ s := by omega
                obtain ⟨s1, hs2⟩ : ∃ s1, s - 1 = s1 := ⟨_, rfl⟩
                have hsI : (s : Int) - 1 = (s1 : Int) := by omega
                have HO3 : Hid (ordR y.k (ms.map ot).reverse y.s = ordR y.k ((ms.map ot).reverse.drop (t + 1)) s1) := by
                  show _ = _
                  rw [HO2.out, hs2]
                  simp [hs0, hse]
                have hs64' : s1 < 18446744073709551616 := by omega
                rw [hse] at e2
                clear hse hs0 hs2 HO2
                go_wp2_with fail
                go_quiet (fail)
                go_wp2_with fail
                go_roundw
                case rel => exact ⟨t + 1, s1, by go_num, by rw [Hkk.out], by omega, hs64', HO3, Hid.mk (hk2.out.drewN nq)⟩
                case measure => simp [intOf]
              · have hne : ((z.q.x.ser : Int) != (s : Int)) = true := by simp; omega
                have HSE := Hid.mk hse
                clear hse hs0
                go_wp2_with fail
                go_quiet (fail)
                go_wp2_with fail
                go_ret
                exact HNO.out _ y HYK.out (by rw [HO2.out]; simp [HSE.out]) (hk2.out.drewN nq)
          · have HO2 := Hid.mk (HORD.out.trans (if_neg hto))
            have hne : (z.to == y.k) = false := by simpa using hto
            clear hto HORD
            go_wp2_with fail
            go_quiet (fail)
            go_wp2_with fail
            go_roundw
            case rel => exact ⟨t + 1, s, rfl, by rw [Hkk.out], by omega, hs64, HO2, Hid.mk (hk2.out.drewN nq)⟩
            case measure => simp [intOf]
        · obtain rfl : t = m := by omega
          have hneg : (t : Int) - 1 - (t : Int) = -1 := by omega
          rw [hneg]
          have HALL : Hid (∀ z ∈ K.take (j + 1), ordR z.k (ms.map ot).reverse z.s = true) := fun z hz => by
            rcases HTK.out z hz with h | h
            · exact hall.out z h
            · subst h
              rw [hord.out, List.drop_eq_nil_of_le (by simp; have := HM.out; omega)]
              rfl
          go_wp2_with fail
          go_roundw
          case rel => exact ⟨j + 1, by go_num, by omega, HALL, hk2⟩
          case measure => simp [intOf]; omega
    · obtain rfl : j = n := by omega
      go_wp2_with fail
      go_ret
      exact HY.out _ (by have := hall.out; rwa [List.take_of_length_le (by have := HN.out; omega)] at this) hk.out
end
end Go.Proofs.YtdadloaifebdiaaGreat
