import Derived.Test.YtdadloaifebdiaaGreatQ26
import Derived.Test.YtdadloaifebdiaaGreatQ37
import Derived.Test.YtdadloaifebdiaaGreatQ39
/-
  The document's Encode of a journal.
-/
namespace Go.Proofs.YtdadloaifebdiaaGreat
set_option maxRecDepth 100000
open Go.RowKit
set_option linter.unusedVariables false
section
variable {w0 w w' : World} {v : Value} {l : List UInt8}
theorem bst_int (h : Bst w0 w v l) {z : Int} (hz : I64 z) (hb : l.length ≤ 1000000) : Calls Tryz.prog 110 #[v, Iv z] w fun e w' => ∃ v', e = .returned v' ∧ Bst w0 w' v' (l ++ enc (fold z)) := by
  refine (refint_any v l z w h.1 hz.1 hz.2 (by omega)).mono ?_
  rintro e w' ⟨v', rfl, G⟩
  exact ⟨v', rfl, h.grew G⟩
end
section
variable {w : World} {f : Nat} {v : Value} {j : Jn}
set_option maxHeartbeats 2000000 in
theorem rencode22 (hF : IsF_J w f v j) (hG : GoodJ j) : Calls Tryz.prog 61 #[.pointer (some ⟨f, 0, none⟩)] w fun e w' => NewB w (encJn j) e w' := by
  obtain ⟨a, c, rfl, hc1, hc2⟩ := hF.form
  have HF := Hid.mk hF
  have HG := Hid.mk hG
  have hln := hG.e16
  have e1 := enc_length j.ver
  have e2 := enc_length j.ev.length
  have hb8 := hG.b8
  have hlI := encI_length j.base
  have x9 := hF.ver
  have H3 := Hid.mk (bst_num (w0 := w) (w := w) (v := .slice none 0 0) (l := []) ⟨Owns.nil 5 w, fresh_nil _ _, Kept.refl [] w⟩ (n := j.ver) hG.v64 (by simp))
  clear hF hG
  go_enter Tryz.func61, Tryz.ntmps61
  go_wp2_with fail
  refine H3.out.mono ?_
  rintro e w3 ⟨v3, rfl, W3⟩
  clear H3 x9
  rw [List.nil_append] at W3
  have HW3 := Hid.mk W3
  clear W3
  generalize hB : enc j.ver = B1 at *
  have HB1 := Hid.mk hB
  clear hB
  go_wp2_with fail
  go_loopw [3, 11] (fun b i wr => ∃ k : Nat, i = .int .i64 (k : Int) ∧ k ≤ 8 ∧ Hid (Bst w wr b (B1 ++ encI (j.base.take k)))) (fun _ i _ => 8 - (intOf i).toNat)
  case atStart => exact ⟨0, rfl, by omega, Hid.mk (by simpa [encI] using HW3.out)⟩
  case round =>
    obtain ⟨k, rfl, hk, H⟩ := hrel
    have hlK := encI_length (j.base.take k)
    rw [List.length_take] at hlK
    have hFr := HF.out.kept0 H.out.2.2
    by_cases hlt : k < 8
    · have hkI : (k : Int) < 8 := by omega
      obtain ⟨y, hy⟩ : ∃ y, j.base[k]? = some y := ⟨_, List.getElem?_eq_getElem (by omega)⟩
      have x0 := hFr.cellA hy
      have H8 := Hid.mk (bst_int H.out (z := y) (HG.out.b64 y (List.mem_of_getElem? hy)) (by rw [List.length_append]; omega))
      have HE := Hid.mk (encI_take hy)
      clear hFr hy H
      go_wp2_with fail
      refine H8.out.mono ?_
      rintro e w8 ⟨v8, rfl, W8⟩
      have HW8 : Hid (Bst w w8 v8 (B1 ++ encI (j.base.take (k + 1)))) := Hid.mk (by rw [HE.out, ← List.append_assoc]; exact W8)
      clear H8 W8 x0
      go_wp2_with fail
      go_roundw
      case rel => exact ⟨k + 1, by go_num, by omega, HW8⟩
      case measure => simp [intOf]; omega
    · obtain rfl : k = 8 := by omega
      have W6 := H.out
      rw [List.take_of_length_le (by omega)] at W6 hlK
      have x8 := hFr.ev
      have g0 : IntKind.u64.wrap (j.ev.length : Int) = (j.ev.length : Int) := by rw [IntKind.wrap_u64]; omega
      have g1 : (0 : Int) ≤ (j.ev.length : Int) := by omega
      have H8 := Hid.mk (bst_num W6 (n := j.ev.length) (by unfold U64; omega) (by rw [List.length_append]; omega))
      clear H W6 hFr
      generalize hn : j.ev.length = n at *
      have HN := Hid.mk hn
      clear hn
      have HE8 : Hid (∀ W, Kept [] w W → W.cell? ⟨f, 8, none⟩ = some (.slice a n c)) := fun W k => (HF.out.kept0 k).ev
      go_wp2_with fail
      refine H8.out.mono ?_
      rintro e w8 ⟨v8, rfl, W8⟩
      clear x8 H8
      have x8 := HE8.out _ W8.2.2
      have HW9 := Hid.mk W8
      have hX1 : (B1 ++ encI j.base ++ enc n).length ≤ 90 := by rw [List.length_append, List.length_append]; omega
      generalize hX : B1 ++ encI j.base ++ enc n = X at *
      have HX := Hid.mk hX
      clear hX W8
      go_wp2_with fail
      clear x8
      go_loopw [3, 36] (fun b i wr => ∃ k : Nat, i = .int .i64 (k : Int) ∧ k ≤ n ∧ Hid (Bst w wr b (X ++ encV (j.ev.take k)))) (fun _ i _ => n - (intOf i).toNat)
      case atStart => exact ⟨0, rfl, by omega, Hid.mk (by simpa [encV] using HW9.out)⟩
      case round =>
        obtain ⟨k, rfl, hk2, H⟩ := hrel
        have hlK2 := encV_length (j.ev.take k)
        rw [List.length_take] at hlK2
        by_cases hlt2 : k < n
        · have hkI2 : (k : Int) < (n : Int) := by omega
          have hk0 : (0 : Int) ≤ (k : Int) := by omega
          obtain ⟨y, hy⟩ : ∃ y, j.ev[k]? = some y := ⟨_, List.getElem?_eq_getElem (by have := HN.out; omega)⟩
          obtain ⟨b, o, rfl, d0, d1⟩ := rowE_at HF.out.row (j := k) (y := ofE y) (by simp [hy])
          obtain ⟨y7, yv⟩ := HG.out.ev y (List.mem_of_getElem? hy)
          have HS : Hid (∀ W, Kept [] w W → W.cell? ⟨f, 8, none⟩ = some (.slice (some ⟨b, o, none⟩) n c) ∧ W.cell? ⟨b, o + k * 2, none⟩ = some (Iv (y.r : Int)) ∧ W.cell? ⟨b, o + k * 2 + 1, none⟩ = some (Iv y.v)) := fun W kk => ⟨HE8.out W kk, kk.cell_eq d0, kk.cell_eq d1⟩
          have S0 := HS.out _ H.out.2.2.drew
          have HE := Hid.mk (encV_take hy)
          have t1 := enc_length y.r
          have hXl : (X ++ encV (j.ev.take k)).length ≤ 378 := by rw [List.length_append]; omega
          have H12 := Hid.mk (bst_num (H.out.kept0 (Kept.refl [] wr).drew) (n := y.r) (by unfold U64; omega) (by omega))
          have H13 : Hid (∀ W u, Bst w W u (X ++ encV (j.ev.take k) ++ enc y.r) → Calls Tryz.prog 110 #[u, Iv y.v] W fun e w' => ∃ v', e = .returned v' ∧ Bst w w' v' (X ++ encV (j.ev.take k) ++ enc y.r ++ enc (fold y.v))) := fun W u h => bst_int h yv (by rw [List.length_append]; omega)
          have g2 : IntKind.u64.wrap (y.r : Int) = (y.r : Int) := by rw [IntKind.wrap_u64]; omega
          have g3 : (0 : Int) ≤ (y.r : Int) := by omega
          clear H hy d0 d1
          go_wp2_with fail
          go_region_held3 (fun V => V.cell? ⟨f, 8, none⟩ = some (.slice (some ⟨b, o, none⟩) n c) ∧ V.cell? ⟨b, o + k * 2, none⟩ = some (Iv (y.r : Int)) ∧ V.cell? ⟨b, o + k * 2 + 1, none⟩ = some (Iv y.v)) (first | with_reducible exact S0 | with_reducible exact S1 | with_reducible exact S2) (first | (go_at_call 110; refine (H13.out _ _ T1.out).mono ?_; rintro e w2 ⟨v2, rfl, t⟩; have T2 := Hid.mk t; have S2 := HS.out _ t.2.2; clear t) | (go_at_call 59; refine H12.out.mono ?_; rintro e w1 ⟨v1, rfl, t⟩; have T1 := Hid.mk t; have S1 := HS.out _ t.2.2; clear t))
          have HW13 : Hid (Bst w w2 v2 (X ++ encV (j.ev.take (k + 1)))) := Hid.mk (by rw [HE.out]; simpa [List.append_assoc] using T2.out)
          clear S0 S1 S2 HS H12 H13 T1 T2
          go_wp2_with fail
          go_roundw
          case rel => exact ⟨k + 1, by go_num, by omega, HW13⟩
          case measure => simp [intOf]; omega
        · obtain rfl : k = n := by omega
          have HW := H
          clear H
          go_wp2_with fail
          go_ret
          have W6 := HW.out
          rw [List.take_of_length_le (by have := HN.out; omega), ← HX.out, ← HB1.out] at W6
          refine ⟨_, rfl, ?_, W6.2.2, W6.2.1⟩
          unfold encJn
          rw [HN.out]
          simpa [List.append_assoc] using W6.1
end
end Go.Proofs.YtdadloaifebdiaaGreat
