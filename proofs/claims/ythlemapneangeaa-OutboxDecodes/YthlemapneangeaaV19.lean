import Derived.Test.YthlemapneangeaaV10
import Derived.Test.YthlemapneangeaaV11
import Derived.Test.YthlemapneangeaaV15
import Derived.Test.YthlemapneangeaaV18
/-
  The document's Encode of an outbox.
-/
namespace Go.Proofs.Ythlemapneangeaa
set_option maxRecDepth 100000
open Go.RowKit
set_option linter.unusedVariables false
/-- Bytes that were laid since w0. -/
def Bst (w0 w : World) (v : Value) (l : List UInt8) : Prop := Owns 5 w v l ∧ Fresh w0 v ∧ Kept [] w0 w
section
variable {w0 w w' : World} {v : Value} {l : List UInt8}
theorem Bst.kept0 (h : Bst w0 w v l) (k : Kept [] w w') : Bst w0 w' v l := ⟨h.1.kept k (by simp), h.2.1, h.2.2.trans k (by simp)⟩
theorem Bst.grew {l' : List UInt8} {v' : Value} (h : Bst w0 w v l) (G : Grew 5 w v l' v' w') : Bst w0 w' v' l' := by
  obtain ⟨h1, h2, h3⟩ := h
  obtain ⟨i1, i2, i3⟩ := G
  refine ⟨i1, fun g hg => ?_, h3.trans i2 (fun x hx => by rw [Option.mem_toList] at hx; exact .inr (h2 x hx))⟩
  rcases i3 g hg with h | h
  · exact h2 g h
  · have := h3.size; omega
theorem bst_num (h : Bst w0 w v l) {n : Nat} (hn : U64 n) (hb : l.length ≤ 1000000) : Calls Try.prog 41 #[v, Uv n] w fun e w' => ∃ v', e = .returned v' ∧ Bst w0 w' v' (l ++ enc n) := by
  refine (refnum_any v l n w h.1 hn (by omega)).mono ?_
  rintro e w' ⟨v', rfl, G⟩
  exact ⟨v', rfl, h.grew G⟩
theorem bst_text (h : Bst w0 w v l) (s : List UInt8) (hs : s.length ≤ 1000000) (hb : l.length ≤ 1000000) : Calls Try.prog 40 #[v, Sv s] w fun e w' => ∃ v', e = .returned v' ∧ Bst w0 w' v' (l ++ encTx s) := by
  have hz : (⟨s.toArray⟩ : ByteArray).size = s.length := by simp [ByteArray.size]
  refine (reftext_any v l ⟨s.toArray⟩ w h.1 (by rw [hz]; omega)).mono ?_
  rintro e w' ⟨v', rfl, G⟩
  rw [hz] at G
  have e : l ++ enc s.length ++ s = l ++ encTx s := by unfold encTx; rw [List.append_assoc]
  have G : Grew 5 w v (l ++ enc s.length ++ s) v' w' := G
  rw [e] at G
  exact ⟨v', rfl, h.grew G⟩
end
section
variable {w0 w w' : World} {p pf : Nat} {v u : Value} {own : List UInt8} {K : List La} {qs ms : List Yq}
set_option maxHeartbeats 2000000 in
theorem rencode15 (hF : IsF w0 w pf v u own K ms) (hg : GoodO ⟨own, K, ms.map ot⟩) : Calls Try.prog 15 #[.pointer (some ⟨pf, 0, none⟩)] w fun e w' => NewB w (encO ⟨own, K, ms.map ot⟩) e w' := by
  obtain ⟨au, cu, rfl, hc1, hc2⟩ := rowK_form hF.krow
  obtain ⟨av, cv, rfl, hv1, hv2⟩ := rowY_form hF.ys.row
  have HF := Hid.mk hF
  have HG := Hid.mk hg
  have hown := (isKey_iff _).1 hg.own
  dsimp only at hown
  have hkn : K.length ≤ 64 := hg.kn
  have hln : ms.length ≤ 32 := by have := hg.ln; dsimp only at this; rwa [List.length_map] at this
  have g0 : (0 : Int) ≤ (K.length : Int) := by omega
  have f0 : (0 : Int) ≤ (ms.length : Int) := by omega
  have e0 := encTx_length own
  have e1 := enc_length K.length
  have e2 := enc_length ms.length
  clear hF hg
  generalize hn : K.length = n at *
  generalize hm : ms.length = m at *
  have HN := Hid.mk hn
  have HM := Hid.mk hm
  clear hn hm
  have HC : Hid (∀ W, Kept [] w W → W.cell? ⟨pf, 0, none⟩ = some (Sv own) ∧ W.cell? ⟨pf, 1, none⟩ = some (.slice av m cv) ∧ W.cell? ⟨pf, 2, none⟩ = some (.slice au n cu)) := fun W k => cells3 (HF.out.kept0 k).box
  obtain ⟨x0, x1, x2⟩ := HC.out _ (Kept.refl [] w)
  have H3 := Hid.mk (bst_text (w0 := w) (w := w) (v := .slice none 0 0) (l := []) ⟨Owns.nil 5 w, fresh_nil _ _, Kept.refl [] w⟩ own (by omega) (by simp))
  go_enter Try.func15, Try.ntmps15
  go_wp2_with fail
  refine H3.out.mono ?_
  rintro e w3 ⟨v3, rfl, W3⟩
  clear H3 x0 x1 x2
  rw [List.nil_append] at W3
  obtain ⟨x0, x1, x2⟩ := HC.out _ W3.2.2
  have H4 := Hid.mk (bst_num W3 (n := n) (by unfold U64; omega) (by omega))
  clear W3
  go_wp2_with fail
  refine H4.out.mono ?_
  rintro e w4 ⟨v4, rfl, W4⟩
  clear H4 x0 x1 x2
  obtain ⟨x0, x1, x2⟩ := HC.out _ W4.2.2
  have HW5 := Hid.mk W4
  clear W4
  have hB1 : (encTx own ++ enc n).length ≤ 58 := by rw [List.length_append]; omega
  generalize hB : encTx own ++ enc n = B1 at *
  have HB1 := Hid.mk hB
  clear hB e0 e1
  go_wp2_with fail
  clear x0 x1 x2
  go_loopw [3, 24] (fun b i wr => ∃ j : Nat, i = .int .i64 (j : Int) ∧ j ≤ n ∧ Hid (Bst w wr b (B1 ++ encK (K.take j)))) (fun _ i _ => n - (intOf i).toNat)
  case atStart => exact ⟨0, rfl, by omega, Hid.mk (by simpa [encK] using HW5.out)⟩
  case round =>
    obtain ⟨j, rfl, hj, hH⟩ := hrel
    have W6 := hH.out
    have hFr := HF.out.kept0 W6.2.2
    have hlK := encK_length (K := K.take j) (fun y hy => (HG.out.key y (List.mem_of_mem_take hy)).1)
    rw [List.length_take] at hlK
    by_cases hlt : j < n
    · have hjI : (j : Int) < (n : Int) := by omega
      have hj0 : (0 : Int) ≤ (j : Int) := by omega
      obtain ⟨y, hy⟩ : ∃ y, K[j]? = some y := ⟨_, List.getElem?_eq_getElem (by have := HN.out; omega)⟩
      obtain ⟨b, o, rfl, d0, d1⟩ := rowK_at hFr.krow hy
      have hyk := HG.out.key y (List.mem_of_getElem? hy)
      have hkl := (isKey_iff _).1 hyk.1
      obtain ⟨x0, x1, x2⟩ := HC.out _ W6.2.2
      have H8 := Hid.mk (bst_text W6 y.k (by omega) (by rw [List.length_append]; omega))
      have HD : Hid (∀ W, Kept [] w W → W.cell? ⟨b, o + j * 2 + 1, none⟩ = some (Uv y.s)) := fun W k => by
        obtain ⟨b', o', e, -, d⟩ := rowK_at (HF.out.kept0 k).krow hy
        injection e with e
        injection e with e1 e2 _
        subst e1 e2
        exact d
      have HK := Hid.mk hyk
      have HE := Hid.mk (encK_take hy)
      clear hH W6 hFr hy hyk d1
      go_wp2_with fail
      refine H8.out.mono ?_
      rintro e w8 ⟨v8, rfl, W8⟩
      clear x0 x1 x2 d0 H8
      obtain ⟨x0, x1, x2⟩ := HC.out _ W8.2.2
      have d1 := HD.out _ W8.2.2
      have hek := encTx_length y.k
      have H9 := Hid.mk (bst_num W8 HK.out.2.2 (by rw [List.length_append, List.length_append]; omega))
      clear W8
      go_wp2_with fail
      refine H9.out.mono ?_
      rintro e w9 ⟨v9, rfl, W9⟩
      have HW9 : Hid (Bst w w9 v9 (B1 ++ encK (K.take (j + 1)))) := Hid.mk (by rw [HE.out]; simpa [List.append_assoc] using W9)
      clear W9 H9 d1 x0 x1 x2
      go_wp2_with fail
      go_roundw
      case rel => exact ⟨j + 1, by go_num, by omega, HW9⟩
      case measure => simp [intOf]; omega
    · obtain rfl : j = n := by omega
      obtain ⟨x0, x1, x2⟩ := HC.out _ W6.2.2
      have H10 := Hid.mk (bst_num W6 (n := m) (by unfold U64; omega) (by rw [List.length_append]; omega))
      clear W6 hFr hH
      go_wp2_with fail
      refine H10.out.mono ?_
      rintro e w10 ⟨v10, rfl, W10⟩
      clear x0 x1 x2 H10
      rw [List.take_of_length_le (by have := HN.out; omega)] at W10 hlK
      obtain ⟨x0, x1, x2⟩ := HC.out _ W10.2.2
      have HW11 := Hid.mk W10
      clear W10
      have hB2 : (B1 ++ encK K ++ enc m).length ≤ 4000 := by rw [List.length_append, List.length_append]; omega
      generalize hBB : B1 ++ encK K ++ enc m = B2 at *
      have HB2 := Hid.mk hBB
      clear hBB
      go_wp2_with fail
      clear x0 x1 x2
      go_loopw [3, 61] (fun b i wr => ∃ j : Nat, i = .int .i64 (j : Int) ∧ j ≤ m ∧ Hid (Bst w wr b (B2 ++ encY ((ms.map ot).take j)))) (fun _ i _ => m - (intOf i).toNat)
      case atStart => exact ⟨0, rfl, by omega, Hid.mk (by simpa [encY] using HW11.out)⟩
      case round =>
        clear HW11 HW5 hlt hlK
        obtain ⟨j, rfl, hj, hH⟩ := hrel
        have W6 := hH.out
        have hFr := HF.out.kept0 W6.2.2
        have hlY := encY_length (L := (ms.map ot).take j) (fun y hy => HG.out.to40 (List.mem_of_mem_take hy))
        rw [List.length_take, List.length_map, HM.out] at hlY
        by_cases hlt : j < m
        · have hjI : (j : Int) < (m : Int) := by omega
          have hj0 : (0 : Int) ≤ (j : Int) := by omega
          obtain ⟨y, hy⟩ : ∃ y, ms[j]? = some y := ⟨_, List.getElem?_eq_getElem (by have := HM.out; omega)⟩
          have hyL : (ms.map ot)[j]? = some (ot y) := by rw [List.getElem?_map, hy]; rfl
          obtain ⟨b, o, rfl, d0, -, -, -, -⟩ := rowY_at hFr.ys.row hy
          have hym := List.mem_of_getElem? hyL
          obtain ⟨hfo, hto⟩ := HG.out.to40 hym
          have hok : y.q.x.ok := (HG.out.lets _ hym).1
          have hfo : y.q.x.formed = true := hfo
          have hto : y.to.length ≤ 40 := hto
          obtain ⟨x0, x1, x2⟩ := HC.out _ W6.2.2
          have H8 := Hid.mk (bst_text W6 y.to (by omega) (by rw [List.length_append]; omega))
          have hxl := encL_length y.q.x
          have hfl := formed_le hfo
          have HD : Hid (∀ W, Kept [] w W → (W.cell? ⟨b, o + j * 5 + 1, none⟩ = some (Sv y.q.x.fr) ∧ W.cell? ⟨b, o + j * 5 + 2, none⟩ = some (.int .u64 (y.q.x.ser : Int)) ∧ W.cell? ⟨b, o + j * 5 + 3, none⟩ = some (.int .i64 y.q.x.kind) ∧ W.cell? ⟨b, o + j * 5 + 4, none⟩ = some (.slice y.q.ad y.q.x.args.length y.q.cap)) ∧ Calls Try.prog 42 #[.slice none 0 0, Lv y.q.x y.q.ad y.q.cap] W fun e w' => ∃ v', e = .returned v' ∧ Owns 5 w' v' (encL y.q.x) ∧ Kept [] W w' ∧ Fresh W v') := fun W k => by
            obtain ⟨b', o', e, -, c1, c2, c3, c4⟩ := rowY_at (HF.out.kept0 k).ys.row hy
            injection e with e
            injection e with e1 e2 _
            subst e1 e2
            refine ⟨⟨c1, c2, c3, c4⟩, ?_⟩
            refine (lay29 (.slice none 0 0) [] y.q.x y.q.ad y.q.cap (Owns.nil 5 W) (((HF.out.kept0 k).ys.args y (List.mem_of_getElem? hy)).reads) (fun _ g hg => by simp [Value.ownBlock]) hok (by simp; omega)).mono ?_
            rintro e w' ⟨v', rfl, i1, i2, i3⟩
            rw [List.nil_append] at i1
            exact ⟨v', rfl, i1, i2.mono (by simp [Value.ownBlock]), new_nil i3⟩
          have HE := Hid.mk (encY_take hyL)
          clear hH W6 hFr hy hyL hym hok hfo
          go_wp2_with fail
          refine H8.out.mono ?_
          rintro e w8 ⟨v8, rfl, W8⟩
          clear x0 x1 x2 d0 H8
          obtain ⟨x0, x1, x2⟩ := HC.out _ W8.2.2
          obtain ⟨⟨d1, d2, d3, d4⟩, hlay⟩ := HD.out _ W8.2.2
          have HLAY := Hid.mk hlay
          have HW8 := Hid.mk W8
          clear hlay W8
          go_wp2_with fail
          refine HLAY.out.mono ?_
          rintro e w9 ⟨v9, rfl, hO9, k9, hf9⟩
          have hst := string_of 34 5 Try.underlying34 9 Try.underlying5 Try.underlying9 _ _ _ hO9.reads
          obtain ⟨a9, n9, rfl⟩ := hO9.form
          have het := encTx_length y.to
          have H10 := Hid.mk (bst_text (HW8.out.kept0 k9) (encL y.q.x) (by omega) (by rw [List.length_append, List.length_append]; omega))
          clear hO9 k9 hf9 x0 x1 x2 d1 d2 d3 d4
          go_wp2_with fail
          refine H10.out.mono ?_
          rintro e w12 ⟨v12, rfl, W12⟩
          have HW12 : Hid (Bst w w12 v12 (B2 ++ encY ((ms.map ot).take (j + 1)))) := Hid.mk (by rw [HE.out]; simpa [List.append_assoc, ot] using W12)
          clear W12 H10 hst
          go_wp2_with fail
          go_roundw
          case rel => exact ⟨j + 1, by go_num, by omega, HW12⟩
          case measure => simp [intOf]; omega
        · obtain rfl : j = m := by omega
          go_wp2_with fail
          go_ret
          rw [List.take_of_length_le (by rw [List.length_map]; have := HM.out; omega), ← HB2.out, ← HB1.out] at W6
          refine ⟨_, rfl, ?_, W6.2.2, W6.2.1⟩
          unfold encO
          dsimp only
          rw [List.length_map, HN.out, HM.out]
          simpa [List.append_assoc] using W6.1
end
end Go.Proofs.Ythlemapneangeaa
/-
  The document's outbox: ordered.
-/
namespace Go.Proofs.Ythlemapneangeaa
set_option maxRecDepth 100000
open Go.RowKit
set_option linter.unusedVariables false
section
variable {w0 w w' : World} {pf : Nat} {v u : Value} {own : List UInt8} {K : List La} {ms : List Yq}
theorem rev_at {L : List Ot} {t : Nat} (h : t < L.length) : L.reverse.drop t = (L[L.length - 1 - t]'(by omega)) :: L.reverse.drop (t + 1) := by
  rw [List.drop_eq_getElem_cons (by simp; exact h)]
  congr 1
  rw [List.getElem_reverse]
set_option maxHeartbeats 4000000 in
theorem ordered55 (hF : IsF w0 w pf v u own K ms) (hK : K.length ≤ 64) (hm : ms.length ≤ 32) (hu : ∀ y ∈ K, U64 y.s) : Calls Try.prog 55 #[.pointer (some ⟨pf, 0, none⟩)] w fun e w' => e = .returned (.bool (ordO K (ms.map ot))) ∧ Kept [] w w' := by
  obtain ⟨au, cu, rfl, hc1, hc2⟩ := rowK_form hF.krow
  obtain ⟨av, cv, rfl, hv1, hv2⟩ := rowY_form hF.ys.row
  have HF := Hid.mk hF
  have HU := Hid.mk hu
  clear hF hu
  have HC : Hid (∀ W, Kept [] w W → W.cell? ⟨pf, 0, none⟩ = some (Sv own) ∧ W.cell? ⟨pf, 1, none⟩ = some (.slice av ms.length cv) ∧ W.cell? ⟨pf, 2, none⟩ = some (.slice au K.length cu)) := fun W k => cells3 (HF.out.kept0 k).box
  generalize hn : K.length = n at *
  generalize hmm : ms.length = m at *
  have HN := Hid.mk hn
  have HM := Hid.mk hmm
  clear hn hmm
  obtain ⟨x0, x1, x2⟩ := HC.out _ (Kept.refl [] w)
  have HY : Hid (∀ W, (∀ y ∈ K, ordR y.k (ms.map ot).reverse y.s = true) → Kept [] w W → (Ending.returned (.bool true) = .returned (.bool (ordO K (ms.map ot))) ∧ Kept [] w W)) := fun W h k => ⟨by rw [show ordO K (ms.map ot) = true by simpa [ordO] using h], k⟩
  have HNO : Hid (∀ W y, y ∈ K → ordR y.k (ms.map ot).reverse y.s = false → Kept [] w W → (Ending.returned (.bool false) = .returned (.bool (ordO K (ms.map ot))) ∧ Kept [] w W)) := fun W y hy h k => ⟨by
    have : ordO K (ms.map ot) = false := by
      unfold ordO
      rw [List.all_eq_false]
      exact ⟨y, hy, by rw [h]; simp⟩
    rw [this], k⟩
  go_enter Try.func55, Try.ntmps55
  go_wp2_with fail
  clear x0 x1 x2
  go_loopw [11] (fun i wr => ∃ j : Nat, i = .int .i64 (j : Int) ∧ j ≤ n ∧ Hid (∀ y ∈ K.take j, ordR y.k (ms.map ot).reverse y.s = true) ∧ Hid (Kept [] w wr)) (fun i _ => n - (intOf i).toNat)
  case atStart => exact ⟨0, rfl, by omega, Hid.mk (by simp), Hid.mk (Kept.refl [] _)⟩
  case round =>
    obtain ⟨j, rfl, hj, hall, hk⟩ := hrel
    by_cases hlt : j < n
    · have hjI : (j : Int) < (n : Int) := by omega
      have hj0 : (0 : Int) ≤ (j : Int) := by omega
      obtain ⟨y, hy⟩ : ∃ y, K[j]? = some y := ⟨_, List.getElem?_eq_getElem (by have := HN.out; omega)⟩
      obtain ⟨b, o, rfl, -, -⟩ := rowK_at (HF.out.kept0 hk.out).krow hy
      have HKC : Hid (∀ W, Kept [] w W → W.cell? ⟨b, o + j * 2, none⟩ = some (Sv y.k) ∧ W.cell? ⟨b, o + j * 2 + 1, none⟩ = some (Uv y.s)) := fun W k => by
        obtain ⟨b', o', e, d0, d1⟩ := rowK_at (HF.out.kept0 k).krow hy
        injection e with e
        injection e with e1 e2 _
        subst e1 e2
        exact ⟨d0, d1⟩
      obtain ⟨d0, d1⟩ := HKC.out _ hk.out
      obtain ⟨x0, x1, x2⟩ := HC.out _ hk.out
      have hyK := List.mem_of_getElem? hy
      have hys : y.s < 18446744073709551616 := HU.out y hyK
      have HTK : Hid (∀ z ∈ K.take (j + 1), z ∈ K.take j ∨ z = y) := fun z hz => by
        rw [List.take_add_one, hy] at hz
        simpa using hz
      have HYK := Hid.mk hyK
      clear hy hyK
      go_wp2_with fail
      clear d0 d1 x0 x1 x2
      go_loopw [4, 5] (fun sv k ws => ∃ (t s : Nat), sv = Uv s ∧ k = .int .i64 ((m : Int) - 1 - (t : Int)) ∧ t ≤ m ∧ s < 18446744073709551616 ∧ Hid (ordR y.k (ms.map ot).reverse y.s = ordR y.k ((ms.map ot).reverse.drop t) s) ∧ Hid (Kept [] w ws)) (fun _ k _ => (intOf k + 1).toNat)
      case atStart => exact ⟨0, y.s, rfl, by simp, by omega, hys, Hid.mk rfl, hk⟩
      case round =>
        obtain ⟨t, s, rfl, rfl, ht, hs64, hord, hk2⟩ := hrel
        by_cases htm : t < m
        · obtain ⟨z, hz⟩ : ∃ z, ms[m - 1 - t]? = some z := ⟨_, List.getElem?_eq_getElem (by have := HM.out; omega)⟩
          have hrev : (ms.map ot).reverse.drop t = ot z :: (ms.map ot).reverse.drop (t + 1) := by
            have hl : (ms.map ot).length = m := by rw [List.length_map]; exact HM.out
            rw [rev_at (L := ms.map ot) (t := t) (by omega)]
            congr 1
            have h1 : (ms.map ot)[(ms.map ot).length - 1 - t]? = some (ot z) := by rw [hl, List.getElem?_map, hz]; rfl
            exact (List.getElem?_eq_some_iff.1 h1).2
          have HORD : Hid (ordR y.k (ms.map ot).reverse y.s = if z.to = y.k then (s != 0) && (z.q.x.ser == s) && ordR y.k ((ms.map ot).reverse.drop (t + 1)) (s - 1) else ordR y.k ((ms.map ot).reverse.drop (t + 1)) s) := by
            show _ = _
            rw [hord.out, hrev, ordR_cons]
            rfl
          obtain ⟨b5, o5, rfl, -, -, -, -, -⟩ := rowY_at (HF.out.kept0 hk2.out).ys.row hz
          have HZC : Hid (∀ W, Kept [] w W → W.cell? ⟨b5, o5 + (m - 1 - t) * 5, none⟩ = some (Sv z.to) ∧ W.cell? ⟨b5, o5 + (m - 1 - t) * 5 + 2, none⟩ = some (.int .u64 (z.q.x.ser : Int))) := fun W k => by
            obtain ⟨b', o', e, e0, -, e2, -, -⟩ := rowY_at (HF.out.kept0 k).ys.row hz
            injection e with e
            injection e with e1 e3 _
            subst e1 e3
            exact ⟨e0, e2⟩
          obtain ⟨e0, e2⟩ := HZC.out _ hk2.out
          obtain ⟨d0, d1⟩ := HKC.out _ hk2.out
          obtain ⟨x0, x1, x2⟩ := HC.out _ hk2.out
          have hkk : (m : Int) - 1 - (t : Int) = ((m - 1 - t : Nat) : Int) := by omega
          rw [hkk]
          have hq0 : (0 : Int) ≤ ((m - 1 - t : Nat) : Int) := by omega
          have hq1 : ((m - 1 - t : Nat) : Int) < (m : Int) := by omega
          have Hkk : Hid (((m - 1 - t : Nat) : Int) - 1 = (m : Int) - 1 - ((t + 1 : Nat) : Int)) := by show _ = _; omega
          have hqm : m - 1 - t < 1000 := by omega
          clear hz hrev hord hkk
          generalize m - 1 - t = q at *
          by_cases hto : z.to = y.k
          · have HO2 := Hid.mk (HORD.out.trans (if_pos hto))
            rw [hto] at e0
            clear hto HORD
            by_cases hs0 : s = 0
            · have HR := Hid.mk (HNO.out (wr.drewN 0) y HYK.out (by rw [HO2.out]; simp [hs0]) (hk2.out.drewN 0))
              have hz0 : ((s : Int) == 0) = true := by simp [hs0]
              have HS0 := Hid.mk hs0
              clear hs0
              go_wp2_with fail
              go_quiet (fail)
              go_wp2_with fail
              go_ret
              exact HNO.out _ y HYK.out (by rw [HO2.out]; simp [HS0.out]) (hk2.out.drewN nq)
            · have hz0 : ((s : Int) == 0) = false := by simp; omega
              by_cases hse : z.q.x.ser = s
              · have hs1 : 1 ≤ s := by omega
                obtain ⟨s1, hs2⟩ : ∃ s1, s - 1 = s1 := ⟨_, rfl⟩
                have hsI : (s : Int) - 1 = (s1 : Int) := by omega
                have HO3 : Hid (ordR y.k (ms.map ot).reverse y.s = ordR y.k ((ms.map ot).reverse.drop (t + 1)) s1) := by
                  show _ = _
                  rw [HO2.out, hs2]
                  simp [hs0, hse]
                have hs64' : s1 < 18446744073709551616 := by omega
                rw [hse] at e2
                clear hse hs0 hs2 HO2
                go_wp2_with fail
                go_quiet (fail)
                go_wp2_with fail
                go_roundw
                case rel => exact ⟨t + 1, s1, by go_num, by rw [Hkk.out], by omega, hs64', HO3, Hid.mk (hk2.out.drewN nq)⟩
                case measure => simp [intOf]
              · have hne : ((z.q.x.ser : Int) != (s : Int)) = true := by simp; omega
                have HSE := Hid.mk hse
                clear hse hs0
                go_wp2_with fail
                go_quiet (fail)
                go_wp2_with fail
                go_ret
                exact HNO.out _ y HYK.out (by rw [HO2.out]; simp [HSE.out]) (hk2.out.drewN nq)
          · have HO2 := Hid.mk (HORD.out.trans (if_neg hto))
            have hne : (z.to == y.k) = false := by simpa using hto
            clear hto HORD
            go_wp2_with fail
            go_quiet (fail)
            go_wp2_with fail
            go_roundw
            case rel => exact ⟨t + 1, s, rfl, by rw [Hkk.out], by omega, hs64, HO2, Hid.mk (hk2.out.drewN nq)⟩
            case measure => simp [intOf]
        · obtain rfl : t = m := by omega
          have hneg : (t : Int) - 1 - (t : Int) = -1 := by omega
          rw [hneg]
          have HALL : Hid (∀ z ∈ K.take (j + 1), ordR z.k (ms.map ot).reverse z.s = true) := fun z hz => by
            rcases HTK.out z hz with h | h
            · exact hall.out z h
            · subst h
              rw [hord.out, List.drop_eq_nil_of_le (by simp; have := HM.out; omega)]
              rfl
          go_wp2_with fail
          go_roundw
          case rel => exact ⟨j + 1, by go_num, by omega, HALL, hk2⟩
          case measure => simp [intOf]; omega
    · obtain rfl : j = n := by omega
      go_wp2_with fail
      go_ret
      exact HY.out _ (by have := hall.out; rwa [List.take_of_length_le (by have := HN.out; omega)] at this) hk.out
end
end Go.Proofs.Ythlemapneangeaa
/-
  The document's Decode of an outbox.
-/
namespace Go.Proofs.Ythlemapneangeaa
set_option maxRecDepth 100000
open Go.RowKit
set_option linter.unusedVariables false
theorem ge_no {a b : List UInt8} (h : b < a) : (Op.bytesLess a b || b == a) = false := by
  rw [bytesLess_eq, Bool.or_eq_false_iff]
  exact ⟨by simpa using fun h' => klt_irrefl _ (klt_trans h h'), by simp; rintro rfl; exact klt_irrefl _ h⟩
theorem ge_yes {a b : List UInt8} (h : ¬ b < a) : (Op.bytesLess a b || b == a) = true := by
  rw [bytesLess_eq, Bool.or_eq_true]
  by_cases e : a = b
  · right; simp [e]
  · left; simpa using klt_tri h (fun h => e h.symm)
theorem rks_bad {K : List La} {l : List UInt8} {n : Nat} (h : (rnum (rtext l false).2.1 (rtext l false).2.2).2.2 = true) : rks (n + 1) K l = none := by
  rw [rks]
  cases ht : txt l with
  | none => rfl
  | some a =>
    obtain ⟨k, r⟩ := a
    rw [txt_some ht] at h
    dsimp only [Option.bind_some] at h ⊢
    cases hn : num r with
    | none => rfl
    | some b =>
      obtain ⟨s, r2⟩ := b
      rw [num_some hn] at h
      cases h
theorem rls_no {own : List UInt8} {K : List La} {L : List Ot} {l : List UInt8} {n : Nat} (h : (rtext (rtext l false).2.1 (rtext l false).2.2).2.2 = true ∨ decL (rtext (rtext l false).2.1 (rtext l false).2.2).1 = none ∨ ∃ x, decL (rtext (rtext l false).2.1 (rtext l false).2.2).1 = some x ∧ (x.fr ≠ own ∨ hasK K (rtext l false).1 = false)) : rls own K (n + 1) L l = none := by
  rw [rls]
  cases ht : txt l with
  | none => rfl
  | some a =>
    obtain ⟨k, r⟩ := a
    rw [txt_some ht] at h
    dsimp only [Option.bind_some] at h ⊢
    cases hn : txt r with
    | none => rfl
    | some b =>
      obtain ⟨s, r2⟩ := b
      rw [txt_some hn] at h
      dsimp only [Option.bind_some] at h ⊢
      rcases h with h | h | ⟨x, h, h'⟩
      · cases h
      · rw [h]; rfl
      · rw [h]
        dsimp only [Option.bind_some]
        rw [if_pos h']
theorem rls_yes {own : List UInt8} {K : List La} {L : List Ot} {l : List UInt8} {n : Nat} {x : Lt} (h : decL (rtext (rtext l false).2.1 (rtext l false).2.2).1 = some x) (hf : x.fr = own) (hk : hasK K (rtext l false).1 = true) : rls own K (n + 1) L l = rls own K n (L ++ [⟨(rtext l false).1, x⟩]) (rtext (rtext l false).2.1 (rtext l false).2.2).2.1 := by
  rw [rls]
  cases ht : txt l with
  | none =>
    rw [txt_none ht] at h
    have e : (rtext [] true).1 = [] := rfl
    dsimp only at h
    rw [e, decL_nil] at h
    cases h
  | some a =>
    obtain ⟨k, r⟩ := a
    rw [txt_some ht] at h hk ⊢
    dsimp only [Option.bind_some] at h hk ⊢
    cases hn : txt r with
    | none =>
      rw [txt_none hn, decL_nil] at h
      cases h
    | some b =>
      obtain ⟨s, r2⟩ := b
      rw [txt_some hn] at h ⊢
      dsimp only [Option.bind_some] at h ⊢
      rw [h]
      dsimp only [Option.bind_some]
      rw [if_neg (by simp [hf, hk])]
/-- The document's outbox at pf and its Reader at q, side by side. -/
structure SF (w0 w : World) (pf q : Nat) (own : List UInt8) (K : List La) (ms : List Yq) (l : List UInt8) (bad : Bool) : Prop where
  isF : ∃ v u, IsF w0 w pf v u own K ms
  rd : ∃ x, IsR 99 w q x l bad ∧ ∀ g, x.ownBlock = some g → g < w0.heap.size
  new : w0.heap.size ≤ q
  k : Kept [] w0 w
section
variable {w0 w w' : World} {pf q : Nat} {own : List UInt8} {K : List La} {ms : List Yq} {l : List UInt8} {bad : Bool}
theorem SF.kept0 (h : SF w0 w pf q own K ms l bad) (k : Kept [] w w') : SF w0 w' pf q own K ms l bad := by
  obtain ⟨v, u, hF⟩ := h.isF
  obtain ⟨x, h1, h2⟩ := h.rd
  exact ⟨⟨v, u, hF.kept0 k⟩, ⟨x, h1.kept k (by simp) (by simp), h2⟩, h.new, h.k.trans k (by simp)⟩
theorem SF.read (h : SF w0 w pf q own K ms l bad) {l' : List UInt8} {bad' : Bool} {x x' : Value} (h1 : IsR 99 w q x l bad) (h2 : ∀ g, x.ownBlock = some g → g < w0.heap.size) (i1 : IsR 99 w' q x' l' bad') (i2 : Kept [q] w w') (i3 : ∀ g, x'.ownBlock = some g → x.ownBlock = some g) : SF w0 w' pf q own K ms l' bad' := by
  obtain ⟨v, u, hF⟩ := h.isF
  refine ⟨⟨v, u, i2.keeps hF.box (by simp; exact box_ne hF.box h1.box (by decide)), hF.ys.kept i2 (fun g hg => ?_), hF.ks.kept i2 (fun g hg hm => ?_), hF.fru, hF.fr⟩, ⟨x', i1, fun g hg => h2 g (i3 g hg)⟩, h.new, h.k.trans i2 (fun y hy => by simp at hy; subst hy; exact .inr h.new)⟩
  · simp at hg
    subst hg
    exact ⟨ownsR_ne hF.ys.own h1.box (by decide), fun y hy => ownsJ_ne (hF.ys.args y hy) h1.box (by decide)⟩
  · simp at hm
    subst hm
    exact ownsR_ne hF.ks h1.box (by decide) hg
theorem sf_num (h : SF w0 w pf q own K ms l bad) : Calls Try.prog 51 #[.pointer (some ⟨q, 0, none⟩)] w fun e w' => e = .returned (.int .u64 ((rnum l bad).1 : Int)) ∧ SF w0 w' pf q own K ms (rnum l bad).2.1 (rnum l bad).2.2 := by
  obtain ⟨x, h1, h2⟩ := h.rd
  refine (refr_any q x l bad w h1).mono ?_
  rintro e w' ⟨rfl, x', i1, i2, i3⟩
  exact ⟨rfl, h.read h1 h2 i1 i2 i3⟩
theorem sf_text (h : SF w0 w pf q own K ms l bad) : Calls Try.prog 50 #[.pointer (some ⟨q, 0, none⟩)] w fun e w' => e = .returned (Sv (rtext l bad).1) ∧ SF w0 w' pf q own K ms (rtext l bad).2.1 (rtext l bad).2.2 := by
  obtain ⟨x, h1, h2⟩ := h.rd
  refine (refr_text q x l bad w h1).mono ?_
  rintro e w' ⟨rfl, x', i1, i2, i3⟩
  exact ⟨rfl, h.read h1 h2 i1 i2 i3⟩
theorem SF.turn {K' : List La} {ms' : List Yq} {v u v' u' : Value} (h : SF w0 w pf q own K ms l bad) (hF : IsF w0 w pf v u own K ms) (hF' : IsF w0 w' pf v' u' own K' ms') (k : Kept (footF pf v u) w w') : SF w0 w' pf q own K' ms' l bad := by
  obtain ⟨x, h1, h2⟩ := h.rd
  refine ⟨⟨v', u', hF'⟩, ⟨x, h1.kept k (fun hm => ?_) (fun g hg hm => ?_), h2⟩, h.new, h.k.trans k (fun y hy => ?_)⟩
  · rcases mem_footF.1 hm with e | e | e
    · exact box_ne h1.box hF.box (by decide) e
    · exact ownsR_ne hF.ys.own h1.box (by decide) e
    · exact ownsR_ne hF.ks h1.box (by decide) e
  · have hlt := h2 g hg
    rcases mem_footF.1 hm with e | e | e
    · have := hF.fr; omega
    · have := hF.ys.fr g e; omega
    · have := hF.fru g e; omega
  · rcases mem_footF.1 hy with e | e | e
    · right; rw [e]; exact hF.fr
    · exact .inr (hF.ys.fr y e)
    · exact .inr (hF.fru y e)
theorem IsF.addK {v u : Value} (hF : IsF w0 w pf v u own K ms) (hs0 : w0.heap.size ≤ w.heap.size) (y : La) (hn : K.length ≤ 1000) : ∃ ad c w', (Builtin.append_ #[72, 72] 72 #[u, .slice (some ⟨w.heap.size, 0, none⟩) 1 1]).run Try.prog (w.alloc (.cells #[Sv y.k, Uv y.s] 90)) = .ok (.slice ad (K.length + 1) c) w' ∧ w'.cell? ⟨pf, 2, none⟩ = some u ∧ w'.frozen? ⟨pf, 2, none⟩ = false ∧ IsF w0 (w'.setCell ⟨pf, 2, none⟩ (.slice ad (K.length + 1) c)) pf v (.slice ad (K.length + 1) c) own (K ++ [y]) ms ∧ Kept (footF pf v u) w (w'.setCell ⟨pf, 2, none⟩ (.slice ad (K.length + 1) c)) := by
  obtain ⟨ad, c, w', hrun, hO, k, hN⟩ := append_rowR rt72 hF.ks [Sv y.k, Uv y.s] rfl (fun x hx => by simp at hx; rcases hx with rfl | rfl <;> rfl) (by rw [CK_length]; omega) 90 (0, 0) 72
  rw [CK_length] at hrun hO hN
  have hbx := k.keeps hF.box (by rw [Option.mem_toList]; exact ownsR_ne hF.ks hF.box (by decide))
  have kp := (Kept.refl [pf] w').setCell (p := ⟨pf, 2, none⟩) (.inl (by simp)) (.slice ad (K.length + 1) c)
  have hys := hF.ys.kept k (fun g hg => by
    rw [Option.mem_toList] at hg
    exact ⟨fun h => own_apart hF.ys.own hF.ks (by decide) h hg, fun z hz h => own_apart (hF.ys.args z hz) hF.ks (by decide) h hg⟩)
  have e : CK K ++ [[Sv y.k, Uv y.s]] = CK (K ++ [y]) := by simp [CK, cellsK]
  rw [e] at hO
  refine ⟨ad, c, w', hrun, (cells3 hbx).2.2, (free3 hbx).2.2, ⟨set3_2 hbx, hys.kept kp (fun g hg => ?_), hO.kept kp (fun g hg hm => ?_), fun g hg => ?_, hF.fr⟩, ?_⟩
  · simp at hg
    subst hg
    exact ⟨ownsR_ne hys.own hbx (by decide), fun z hz => ownsJ_ne (hys.args z hz) hbx (by decide)⟩
  · simp at hm
    subst hm
    exact ownsR_ne hO hbx (by decide) hg
  · rcases hN g hg with h | h
    · exact hF.fru g h
    · omega
  · exact (k.mono (fun x hx => .inl (mem_footF.2 (.inr (.inr (by rw [Option.mem_toList] at hx; exact hx)))))).setCell (p := ⟨pf, 2, none⟩) (.inl (mem_footF.2 (.inl rfl))) _
theorem IsF.addY {v u : Value} (hF : IsF w0 w pf v u own K ms) (hs0 : w0.heap.size ≤ w.heap.size) (y : Yq) (hq : OwnsJ w y.q.sl y.q.x.args) (hf : Fresh w0 y.q.sl) (hn : ms.length ≤ 1000) : ∃ ad c w', (Builtin.append_ #[71, 71] 71 #[v, .slice (some ⟨w.heap.size, 0, none⟩) 1 1]).run Try.prog (w.alloc (.cells #[Sv y.to, Sv y.q.x.fr, .int .u64 (y.q.x.ser : Int), .int .i64 y.q.x.kind, y.q.sl] 75)) = .ok (.slice ad (ms.length + 1) c) w' ∧ w'.cell? ⟨pf, 1, none⟩ = some v ∧ w'.frozen? ⟨pf, 1, none⟩ = false ∧ IsF w0 (w'.setCell ⟨pf, 1, none⟩ (.slice ad (ms.length + 1) c)) pf (.slice ad (ms.length + 1) c) u own K (ms ++ [y]) ∧ Kept (footF pf v u) w (w'.setCell ⟨pf, 1, none⟩ (.slice ad (ms.length + 1) c)) := by
  obtain ⟨ad, c, w', hrun, hO, k⟩ := hF.ys.app y hq hf hs0 (by omega)
  have hbx := k.keeps hF.box (by rw [Option.mem_toList]; exact ownsR_ne hF.ys.own hF.box (by decide))
  have kp := (Kept.refl [pf] w').setCell (p := ⟨pf, 1, none⟩) (.inl (by simp)) (.slice ad (ms.length + 1) c)
  have hks := hF.ks.kept k (fun g hg hm => by rw [Option.mem_toList] at hm; exact own_apart hF.ks hF.ys.own (by decide) hg hm)
  refine ⟨ad, c, w', hrun, (cells3 hbx).2.1, (free3 hbx).2.1, ⟨set3_1 hbx, hO.kept kp (fun g hg => ?_), hks.kept kp (fun g hg hm => ?_), hF.fru, hF.fr⟩, ?_⟩
  · simp at hg
    subst hg
    exact ⟨ownsR_ne hO.own hbx (by decide), fun z hz => ownsJ_ne (hO.args z hz) hbx (by decide)⟩
  · simp at hm
    subst hm
    exact ownsR_ne hks hbx (by decide) hg
  · exact (k.mono (fun x hx => .inl (mem_footF.2 (.inr (.inl (by rw [Option.mem_toList] at hx; exact hx)))))).setCell (p := ⟨pf, 1, none⟩) (.inl (mem_footF.2 (.inl rfl))) _
/-- What the document's Decode answers. -/
def DecF (w : World) (l : List UInt8) (e : Ending) (w' : World) : Prop :=
  (decO l = none ∧ e = .returned (.tuple #[.pointer none, .int .i64 2]) ∧ Kept [] w w') ∨
  (∃ pf v u o ms, decO l = some o ∧ e = .returned (.tuple #[.pointer (some ⟨pf, 0, none⟩), .int .i64 0]) ∧ IsF w w' pf v u o.own o.K ms ∧ ms.map ot = o.L ∧ Kept [] w w')
end
end Go.Proofs.Ythlemapneangeaa
