import Derived.Test.YtdadloaifebdiaaGreatQ30
/-
  The document's Encode of an outbox.
-/
namespace Go.Proofs.YtdadloaifebdiaaGreat
set_option maxRecDepth 100000
open Go.RowKit
set_option linter.unusedVariables false
/-- Bytes that were laid since w0. -/
def Bst (w0 w : World) (v : Value) (l : List UInt8) : Prop := Owns 5 w v l ∧ Fresh w0 v ∧ Kept [] w0 w
section
variable {w0 w w' : World} {v : Value} {l : List UInt8}
theorem Bst.kept0 (h : Bst w0 w v l) (k : Kept [] w w') : Bst w0 w' v l := ⟨h.1.kept k (by simp), h.2.1, h.2.2.trans k (by simp)⟩
theorem Bst.grew {l' : List UInt8} {v' : Value} (h : Bst w0 w v l) (G : Grew 5 w v l' v' w') : Bst w0 w' v' l' := by
  obtain ⟨h1, h2, h3⟩ := h
  obtain ⟨i1, i2, i3⟩ := G
  refine ⟨i1, fun g hg => ?_, h3.trans i2 (fun x hx => by rw [Option.mem_toList] at hx; exact .inr (h2 x hx))⟩
  rcases i3 g hg with h | h
  · exact h2 g h
  · have := h3.size; omega
theorem bst_num (h : Bst w0 w v l) {n : Nat} (hn : U64 n) (hb : l.length ≤ 1000000) : Calls Tryz.prog 59 #[v, Uv n] w fun e w' => ∃ v', e = .returned v' ∧ Bst w0 w' v' (l ++ enc n) := by
  refine (refnum_any v l n w h.1 hn (by omega)).mono ?_
  rintro e w' ⟨v', rfl, G⟩
  exact ⟨v', rfl, h.grew G⟩
theorem bst_text (h : Bst w0 w v l) (s : List UInt8) (hs : s.length ≤ 1000000) (hb : l.length ≤ 1000000) : Calls Tryz.prog 60 #[v, Sv s] w fun e w' => ∃ v', e = .returned v' ∧ Bst w0 w' v' (l ++ encTx s) := by
  have hz : (⟨s.toArray⟩ : ByteArray).size = s.length := by simp [ByteArray.size]
  refine (reftext_any v l ⟨s.toArray⟩ w h.1 (by rw [hz]; omega)).mono ?_
  rintro e w' ⟨v', rfl, G⟩
  rw [hz] at G
  have e : l ++ enc s.length ++ s = l ++ encTx s := by unfold encTx; rw [List.append_assoc]
  have G : Grew 5 w v (l ++ enc s.length ++ s) v' w' := G
  rw [e] at G
  exact ⟨v', rfl, h.grew G⟩
end
section
variable {w0 w w' : World} {p pf : Nat} {v u : Value} {own : List UInt8} {K : List La} {qs ms : List Yq}
set_option maxHeartbeats 2000000 in
theorem rencode15 (hF : IsF w0 w pf v u own K ms) (hg : GoodO ⟨own, K, ms.map ot⟩) : Calls Tryz.prog 62 #[.pointer (some ⟨pf, 0, none⟩)] w fun e w' => NewB w (encO ⟨own, K, ms.map ot⟩) e w' := by
  obtain ⟨au, cu, rfl, hc1, hc2⟩ := rowK_form hF.krow
  obtain ⟨av, cv, rfl, hv1, hv2⟩ := rowY_form hF.ys.row
  have HF := Hid.mk hF
  have HG := Hid.mk hg
  have hown := (isKey_iff _).1 hg.own
  dsimp only at hown
  have hkn : K.length ≤ 64 := hg.kn
  have hln : ms.length ≤ 32 := by have := hg.ln; dsimp only at this; rwa [List.length_map] at this
  have g0 : (0 : Int) ≤ (K.length : Int) := by omega
  have f0 : (0 : Int) ≤ (ms.length : Int) := by omega
  have e0 := encTx_length own
  have e1 := enc_length K.length
  have e2 := enc_length ms.length
  clear hF hg
  generalize hn : K.length = n at *
  generalize hm : ms.length = m at *
  have HN := Hid.mk hn
  have HM := Hid.mk hm
  clear hn hm
  have HC : Hid (∀ W, Kept [] w W → W.cell? ⟨pf, 0, none⟩ = some (Sv own) ∧ W.cell? ⟨pf, 1, none⟩ = some (.slice av m cv) ∧ W.cell? ⟨pf, 2, none⟩ = some (.slice au n cu)) := fun W k => cells3 (HF.out.kept0 k).box
  obtain ⟨x0, x1, x2⟩ := HC.out _ (Kept.refl [] w)
  have H3 := Hid.mk (bst_text (w0 := w) (w := w) (v := .slice none 0 0) (l := []) ⟨Owns.nil 5 w, fresh_nil _ _, Kept.refl [] w⟩ own (by omega) (by simp))
  go_enter Tryz.func62, Tryz.ntmps62
  go_wp2_with fail
  refine H3.out.mono ?_
  rintro e w3 ⟨v3, rfl, W3⟩
  clear H3 x0 x1 x2
  rw [List.nil_append] at W3
  obtain ⟨x0, x1, x2⟩ := HC.out _ W3.2.2
  have H4 := Hid.mk (bst_num W3 (n := n) (by unfold U64; omega) (by omega))
  clear W3
  go_wp2_with fail
  refine H4.out.mono ?_
  rintro e w4 ⟨v4, rfl, W4⟩
  clear H4 x0 x1 x2
  obtain ⟨x0, x1, x2⟩ := HC.out _ W4.2.2
  have HW5 := Hid.mk W4
  clear W4
  have hB1 : (encTx own ++ enc n).length ≤ 58 := by rw [List.length_append]; omega
  generalize hB : encTx own ++ enc n = B1 at *
  have HB1 := Hid.mk hB
  clear hB e0 e1
  go_wp2_with fail
  clear x0 x1 x2
  go_loopw [3, 24] (fun b i wr => ∃ j : Nat, i = .int .i64 (j : Int) ∧ j ≤ n ∧ Hid (Bst w wr b (B1 ++ encK (K.take j)))) (fun _ i _ => n - (intOf i).toNat)
  case atStart => exact ⟨0, rfl, by omega, Hid.mk (by simpa [encK] using HW5.out)⟩
  case round =>
    obtain ⟨j, rfl, hj, hH⟩ := hrel
    have W6 := hH.out
    have hFr := HF.out.kept0 W6.2.2
    have hlK := encK_length (K := K.take j) (fun y hy => (HG.out.key y (List.mem_of_mem_take hy)).1)
    rw [List.length_take] at hlK
    by_cases hlt : j < n
    · have hjI : (j : Int) < (n : Int) := by omega
      have hj0 : (0 : Int) ≤ (j : Int) := by omega
      obtain ⟨y, hy⟩ : ∃ y, K[j]? = some y := ⟨_, List.getElem?_eq_getElem (by have := HN.out; omega)⟩
      obtain ⟨b, o, rfl, d0, d1⟩ := rowK_at hFr.krow hy
      have hyk := HG.out.key y (List.mem_of_getElem? hy)
      have hkl := (isKey_iff _).1 hyk.1
      obtain ⟨x0, x1, x2⟩ := HC.out _ W6.2.2
      have H8 := Hid.mk (bst_text W6 y.k (by omega) (by rw [List.length_append]; omega))
      have HD : Hid (∀ W, Kept [] w W → W.cell? ⟨b, o + j * 2 + 1, none⟩ = some (Uv y.s)) := fun W k => by
        obtain ⟨b', o', e, -, d⟩ := rowK_at (HF.out.kept0 k).krow hy
        injection e with e
        injection e with e1 e2 _
        subst e1 e2
        exact d
      have HK := Hid.mk hyk
      have HE := Hid.mk (encK_take hy)
      clear hH W6 hFr hy hyk d1
      go_wp2_with fail
      refine H8.out.mono ?_
      rintro e w8 ⟨v8, rfl, W8⟩
      clear x0 x1 x2 d0 H8
      obtain ⟨x0, x1, x2⟩ := HC.out _ W8.2.2
      have d1 := HD.out _ W8.2.2
      have hek := encTx_length y.k
      have H9 := Hid.mk (bst_num W8 HK.out.2.2 (by rw [List.length_append, List.length_append]; omega))
      clear W8
      go_wp2_with fail
      refine H9.out.mono ?_
      rintro e w9 ⟨v9, rfl, W9⟩
      have HW9 : Hid (Bst w w9 v9 (B1 ++ encK (K.take (j + 1)))) := Hid.mk (by rw [HE.out]; simpa [List.append_assoc] using W9)
      clear W9 H9 d1 x0 x1 x2
      go_wp2_with fail
      go_roundw
      case rel => exact ⟨j + 1, by go_num, by omega, HW9⟩
      case measure => simp [intOf]; omega
    · obtain rfl : j = n := by omega
      obtain ⟨x0, x1, x2⟩ := HC.out _ W6.2.2
      have H10 := Hid.mk (bst_num W6 (n := m) (by unfold U64; omega) (by rw [List.length_append]; omega))
      clear W6 hFr hH
      go_wp2_with fail
      refine H10.out.mono ?_
      rintro e w10 ⟨v10, rfl, W10⟩
      clear x0 x1 x2 H10
      rw [List.take_of_length_le (by have := HN.out; omega)] at W10 hlK
      obtain ⟨x0, x1, x2⟩ := HC.out _ W10.2.2
      have HW11 := Hid.mk W10
      clear W10
      have hB2 : (B1 ++ encK K ++ enc m).length ≤ 4000 := by rw [List.length_append, List.length_append]; omega
      generalize hBB : B1 ++ encK K ++ enc m = B2 at *
      have HB2 := Hid.mk hBB
      clear hBB
      go_wp2_with fail
      clear x0 x1 x2
      go_loopw [3, 61] (fun b i wr => ∃ j : Nat, i = .int .i64 (j : Int) ∧ j ≤ m ∧ Hid (Bst w wr b (B2 ++ encY ((ms.map ot).take j)))) (fun _ i _ => m - (intOf i).toNat)
      case atStart => exact ⟨0, rfl, by omega, Hid.mk (by simpa [encY] using HW11.out)⟩
      case round =>
        clear HW11 HW5 hlt hlK
        obtain ⟨j, rfl, hj, hH⟩ := hrel
        have W6 := hH.out
        have hFr := HF.out.kept0 W6.2.2
        have hlY := encY_length (L := (ms.map ot).take j) (fun y hy => HG.out.to40 (List.mem_of_mem_take hy))
        rw [List.length_take, List.length_map, HM.out] at hlY
        by_cases hlt : j < m
        · have hjI : (j : Int) < (m : Int) := by omega
          have hj0 : (0 : Int) ≤ (j : Int) := by omega
          obtain ⟨y, hy⟩ : ∃ y, ms[j]? = some y := ⟨_, List.getElem?_eq_getElem (by have := HM.out; omega)⟩
          have hyL : (ms.map ot)[j]? = some (ot y) := by rw [List.getElem?_map, hy]; rfl
          obtain ⟨b, o, rfl, d0, -, -, -, -⟩ := rowY_at hFr.ys.row hy
          have hym := List.mem_of_getElem? hyL
          obtain ⟨hfo, hto⟩ := HG.out.to40 hym
          have hok : y.q.x.ok := (HG.out.lets _ hym).1
          have hfo : y.q.x.formed = true := hfo
          have hto : y.to.length ≤ 40 := hto
          obtain ⟨x0, x1, x2⟩ := HC.out _ W6.2.2
          have H8 := Hid.mk (bst_text W6 y.to (by omega) (by rw [List.length_append]; omega))
          have hxl := encL_length y.q.x
          have hfl := formed_le hfo
          have HD : Hid (∀ W, Kept [] w W → (W.cell? ⟨b, o + j * 5 + 1, none⟩ = some (Sv y.q.x.fr) ∧ W.cell? ⟨b, o + j * 5 + 2, none⟩ = some (.int .u64 (y.q.x.ser : Int)) ∧ W.cell? ⟨b, o + j * 5 + 3, none⟩ = some (.int .i64 y.q.x.kind) ∧ W.cell? ⟨b, o + j * 5 + 4, none⟩ = some (.slice y.q.ad y.q.x.args.length y.q.cap)) ∧ Calls Tryz.prog 109 #[.slice none 0 0, Lv y.q.x y.q.ad y.q.cap] W fun e w' => ∃ v', e = .returned v' ∧ Owns 5 w' v' (encL y.q.x) ∧ Kept [] W w' ∧ Fresh W v') := fun W k => by
            obtain ⟨b', o', e, -, c1, c2, c3, c4⟩ := rowY_at (HF.out.kept0 k).ys.row hy
            injection e with e
            injection e with e1 e2 _
            subst e1 e2
            refine ⟨⟨c1, c2, c3, c4⟩, ?_⟩
            refine (lay29 (.slice none 0 0) [] y.q.x y.q.ad y.q.cap (Owns.nil 5 W) (((HF.out.kept0 k).ys.args y (List.mem_of_getElem? hy)).reads) (fun _ g hg => by simp [Value.ownBlock]) hok (by simp; omega)).mono ?_
            rintro e w' ⟨v', rfl, i1, i2, i3⟩
            rw [List.nil_append] at i1
            exact ⟨v', rfl, i1, i2.mono (by simp [Value.ownBlock]), new_nil i3⟩
          have HE := Hid.mk (encY_take hyL)
          clear hH W6 hFr hy hyL hym hok hfo
          go_wp2_with fail
          refine H8.out.mono ?_
          rintro e w8 ⟨v8, rfl, W8⟩
          clear x0 x1 x2 d0 H8
          obtain ⟨x0, x1, x2⟩ := HC.out _ W8.2.2
          obtain ⟨⟨d1, d2, d3, d4⟩, hlay⟩ := HD.out _ W8.2.2
          have HLAY := Hid.mk hlay
          have HW8 := Hid.mk W8
          clear hlay W8
          go_wp2_with fail
          refine HLAY.out.mono ?_
          rintro e w9 ⟨v9, rfl, hO9, k9, hf9⟩
          have hst := string_of 22 5 Tryz.underlying22 9 Tryz.underlying5 Tryz.underlying9 _ _ _ hO9.reads
          obtain ⟨a9, n9, rfl⟩ := hO9.form
          have het := encTx_length y.to
          have H10 := Hid.mk (bst_text (HW8.out.kept0 k9) (encL y.q.x) (by omega) (by rw [List.length_append, List.length_append]; omega))
          clear hO9 k9 hf9 x0 x1 x2 d1 d2 d3 d4
          go_wp2_with fail
          refine H10.out.mono ?_
          rintro e w12 ⟨v12, rfl, W12⟩
          have HW12 : Hid (Bst w w12 v12 (B2 ++ encY ((ms.map ot).take (j + 1)))) := Hid.mk (by rw [HE.out]; simpa [List.append_assoc, ot] using W12)
          clear W12 H10 hst
          go_wp2_with fail
          go_roundw
          case rel => exact ⟨j + 1, by go_num, by omega, HW12⟩
          case measure => simp [intOf]; omega
        · obtain rfl : j = m := by omega
          go_wp2_with fail
          go_ret
          rw [List.take_of_length_le (by rw [List.length_map]; have := HM.out; omega), ← HB2.out, ← HB1.out] at W6
          refine ⟨_, rfl, ?_, W6.2.2, W6.2.1⟩
          unfold encO
          dsimp only
          rw [List.length_map, HN.out, HM.out]
          simpa [List.append_assoc] using W6.1
end
end Go.Proofs.YtdadloaifebdiaaGreat
